"""Ways along links, and how many there are.

The links of a node lead to itself or to lesser nodes only, perhaps several to
the same one.  All ways begin at the last node.
"""


def roots_of(links, targets):
    """The pairs (x, d): at most d nodes of one way to a target have just x links to themselves."""
    most = {}
    each = _most_of_ways(links)
    for target in targets:
        _raise_to(most, each[target])
    return tuple(sorted(most.items()))


def _most_of_ways(links):
    """For each node a dict with the d of each x."""
    most = [{} for _ in links]
    # All that lead to a node have greater numbers, so they are done before it.
    for number in range(len(links) - 1, -1, -1):
        stay = links[number].count(number)
        most[number][stay] = most[number].get(stay, 0) + 1
        for ahead in links[number]:
            if ahead != number:
                _raise_to(most[ahead], most[number])
    return most


def _raise_to(most, others):
    for key in others:
        most[key] = max(most.get(key, 0), others[key])


def coefficients(roots):
    """The c(0), .., c(m - 1) for the product of the (z - x) ** d."""
    product = [1]
    for x, d in roots:
        for _ in range(d):
            product = [one - x * other for one, other in zip([0] + product, product + [0])]
    return tuple([-entry for entry in product[:-1]])


def count_ways(links, lots, length, modulus):
    """For each lot of targets how many ways with so many steps lead to one of them."""
    if modulus is None:
        return _first_counts(links, lots, length + 1, None)[length]
    # A recurrence is far shorter than there are nodes.
    factors = coefficients(roots_of(links, [target for targets in lots for target in targets]))
    first = _first_counts(links, lots, len(factors), modulus)
    rest = _rest_of_power(factors, length, modulus)
    counts = [0] * len(lots)
    for part, entry in zip(rest, first):
        counts = [(many + part * other) % modulus for many, other in zip(counts, entry)]
    return counts


def _first_counts(links, lots, many, modulus):
    """The counts of all lots for the lengths 0, 1, .., as many of them as are asked."""
    found = []
    counts = empty_way(links)
    for _ in range(many):
        found.append([sum([counts[target] for target in targets]) for targets in lots])
        counts = one_longer(links, counts, modulus)
    return found


def empty_way(links):
    """How many ways without a step lead to each node."""
    return [0] * (len(links) - 1) + [1]


def one_longer(links, counts, modulus):
    """How many ways lead to each node, if `counts` tells it for those with one step less."""
    longer = [0] * len(links)
    for many, entry in zip(counts, links):
        if many != 0:
            for ahead in entry:
                longer[ahead] += many
    if modulus is None:
        return longer
    return [many % modulus for many in longer]


def _rest_of_power(factors, power, modulus):
    """The rest of z ** power behind the division by z ** m - c(m - 1) z ** (m - 1) - .. - c(0).

    So the count for a length is the sum of the first m counts, times the rest.
    """
    rest = _reduced([1], factors, modulus)
    for place in range(power.bit_length() - 1, -1, -1):
        square = [0] * (2 * len(rest))
        for at, one in enumerate(rest):
            for beyond, other in enumerate(rest):
                square[at + beyond] += one * other
        # Where the next figure of the power is 1, z comes in once more.
        rest = _reduced([0] * ((power >> place) & 1) + square, factors, modulus)
    return rest


def _reduced(product, factors, modulus):
    """What is left of a product if its powers from m on are replaced, highest first."""
    product = [entry % modulus for entry in product]
    while len(product) > len(factors):
        top = product.pop()
        shift = len(product) - len(factors)
        if top != 0:
            for at, factor in enumerate(factors):
                product[shift + at] = (product[shift + at] + top * factor) % modulus
    return product
