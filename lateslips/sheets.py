"""Sheets: what was told of a question, so that it can be looked through again."""

from lateslips.changes import fault, guard, is_fault, is_guard
from lateslips.errors import InvalidQuestion, Refused, SlipsError
from lateslips.least import is_meeting, meeting
from lateslips.machines import Machine
from lateslips.notes import is_note, least_note
from lateslips.values import is_sequence
from lateslips.verdicts import is_verdict, verdict

# For each kind of sheet how many things its question has.
QUESTIONS = {"fault": 2, "guard": 2, "meeting": 4, "verdict": 1, "note": 1}


def sheet_holds(value):
    """Whether any value is a sheet that holds."""
    if not isinstance(value, tuple) or len(value) != 3:
        return False
    name, question, answer = value
    if not _is_name(name) or not _is_question(name, question):
        return False
    try:
        return _is_answer(name, question, answer)
    except SlipsError:
        return False


def _is_name(value):
    return isinstance(value, str) and value in QUESTIONS


def _is_question(name, value):
    return isinstance(value, tuple) and len(value) == QUESTIONS[name] and isinstance(value[0], Machine)


def _is_answer(name, question, value):
    if name == "fault":
        return is_fault(*question, value)
    if name == "guard":
        return is_guard(*question, value)
    if name == "meeting":
        return is_meeting(*question, value)
    if name == "verdict":
        return is_verdict(*question, value)
    return is_note(*question, value)


def _answer_to(name, question):
    if name == "fault":
        return fault(*question)
    if name == "guard":
        return guard(*question)
    if name == "meeting":
        return meeting(*question)
    if name == "verdict":
        return verdict(*question)
    return least_note(*question)


def sheet(name, question):
    """A sheet of this kind, any value, and this question, any value, that holds."""
    if not _is_name(name):
        raise Refused(0)
    if not _is_question(name, question):
        raise Refused(1)
    answer = _answer_to(name, question)
    if answer is None:
        raise Refused(2)
    return (name, tuple([_copied(part) for part in question]), answer)


def _copied(value):
    if isinstance(value, list):
        return list(value)
    return value


def wrong_sheets(values):
    """The indexes of those of a sequence, any value, that do not hold."""
    if not is_sequence(values):
        raise InvalidQuestion(0)
    return tuple([index for index, value in enumerate(values) if not sheet_holds(value)])
