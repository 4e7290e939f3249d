"""Late commands if only the number of the slips since is known."""

from lateslips.errors import InvalidQuestion
from lateslips.machines import effect, is_command, is_row, is_state
from lateslips.values import is_below

MOST = 1_000_000_000_000_000_000


def ends_by_number(machine, now, many, command):
    """Where the command, ahead of a row of so many commands that leads to `now`, may lead."""
    if not is_state(machine, now):
        raise InvalidQuestion(1)
    if not is_below(many, MOST + 1):
        raise InvalidQuestion(2)
    if not is_command(machine, command):
        raise InvalidQuestion(3)
    reached = 0
    for state, entry in enumerate(machine.steps):
        reached = reached | (1 << _number_of(machine, entry[command], state))
    reached = _led_often(_links(machine), reached, many)
    return tuple([end for end in range(machine.states) if (reached >> _number_of(machine, end, now)) & 1])


def _number_of(machine, one, other):
    """The number of a pair of states: where the command and the row lead, and where the row alone does."""
    return one * machine.states + other


def _links(machine):
    """For each pair, by its number, the pairs to which commands lead it, as the bits of a number."""
    links = []
    for one in machine.steps:
        for other in machine.steps:
            ahead = 0
            for first, second in zip(one, other):
                ahead = ahead | (1 << _number_of(machine, first, second))
            links.append(ahead)
    return links


def _led_often(links, reached, many):
    """The bits to which so many links, one after another, lead."""
    left = many
    while left > 0:
        if left & 1:
            reached = _led(links, reached)
        # Links twice as long each time; in which order the powers are used does not matter.
        links = [_led(links, ahead) for ahead in links]
        left = left >> 1
    return reached


def _led(links, reached):
    ahead = 0
    for number, beyond in enumerate(links):
        if (reached >> number) & 1:
            ahead = ahead | beyond
    return ahead


def number_fault(machine):
    """None, or some number fault with rows as short as any has.

    A node has two pairs of states: where x, u and u lead s, and where x, w and w lead t.
    """
    came = _starts(machine)
    level = list(came)
    while level:
        following = []
        for node in level:
            if node[1] == node[3] and node[0] != node[2]:
                return _fault_told(came, node)
            for ahead, step in _ahead_of(machine, node):
                if ahead not in came:
                    came[ahead] = (node, step)
                    following.append(ahead)
        level = following
    return None


def _starts(machine):
    """The nodes of empty rows, each with (None, (s, t, x))."""
    starts = {}
    for command in range(machine.commands):
        for s, one in enumerate(machine.steps):
            for t, other in enumerate(machine.steps):
                starts.setdefault((one[command], s, other[command], t), (None, (s, t, command)))
    return starts


def _ahead_of(machine, node):
    """The nodes to which one command more in each row leads, with the two commands."""
    one, two, three, four = [machine.steps[state] for state in node]
    each = range(machine.commands)
    return [((one[a], two[a], three[b], four[b]), (a, b)) for a in each for b in each]


def _fault_told(came, node):
    u, w = [], []
    ahead, told = came[node]
    while ahead is not None:
        u.append(told[0])
        w.append(told[1])
        ahead, told = came[ahead]
    return told + (tuple(u[::-1]), tuple(w[::-1]))


def is_number_fault(machine, value):
    """Whether any value is a number fault."""
    if not isinstance(value, tuple) or len(value) != 5:
        return False
    s, t, command, u, w = value
    if not is_state(machine, s) or not is_state(machine, t) or not is_command(machine, command):
        return False
    if not is_row(machine, u) or not is_row(machine, w) or len(u) != len(w):
        return False
    one, other = effect(machine, u), effect(machine, w)
    return one[s] == other[t] and one[machine.steps[s][command]] != other[machine.steps[t][command]]
