"""Lateslips: what must be kept so that late events can be put where they belong."""
