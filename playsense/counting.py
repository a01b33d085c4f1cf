"""Counting and listing the programs of a kind that have just so many asks."""

from playsense.errors import TooMany
from playsense.programs import body_of
from playsense.terms import write_kind

_ENDS = (("say", 0), ("say", 1), ("stop",))
_MOST_LISTED = 2000
_MOST_ASKS = 8


def _times(left, right):
    """The counts of pairs by their asks, by the counts of their first and second items."""
    return [sum([left[few] * right[n - few] for few in range(n + 1)]) for n in range(len(left))]


class BodyCounts:
    """Counts bodies, and keeps what was counted.

    A body may ask the arguments of all the programs around it. How many bodies there are
    does not hang on where these stand, so they are told all together, as one kind.
    """

    def __init__(self):
        self.known = {}

    def of_bodies(self, around, many):
        """How many bodies with so many asks may ask the arguments of a kind."""
        if many == 0:
            return len(_ENDS)
        key = (write_kind(around), many)
        if key not in self.known:
            self.known[key] = sum([self.of_asks(around, asked, many - 1) for asked in around])
        return self.known[key]

    def of_asks(self, around, asked, many):
        """How many asks of an argument of the kind asked have so many asks in them."""
        counts = [1] + [0] * many
        within = [tuple(sorted(around + inner)) for inner in asked] + [around, around]
        for kind in within:
            counts = _times(counts, [self.of_bodies(kind, few) for few in range(many + 1)])
        return counts[many]


def count(kind, many):
    """How many programs of a kind have just so many asks."""
    return BodyCounts().of_bodies(tuple(sorted(kind)), many)


def _bodies(kinds, many):
    """All bodies with so many asks within programs of some kinds, the outermost first."""
    if many == 0:
        return list(_ENDS)
    found = []
    for up, kind in enumerate(kinds[::-1]):
        for k, asked in enumerate(kind):
            within = [kinds + (inner,) for inner in asked] + [kinds, kinds]
            found.extend([body_of(("ask", up, k, asked), parts) for parts in _side_by_side(within, many - 1)])
    return found


def _side_by_side(within, many):
    """All tuples of bodies, one within each of some kinds, that have so many asks together."""
    found = [((), many)]
    for kinds in within:
        choices = [_bodies(kinds, few) for few in range(many + 1)]
        found = [
            (parts + (body,), left - few)
            for parts, left in found for few in range(left + 1) for body in choices[few]
        ]
    return [parts for parts, left in found if left == 0]


def listed(kind, many):
    """A rising tuple of the programs of a kind with just so many asks; raises TooMany()."""
    # Where there are arguments, more asks make more programs: it is enough to count so far.
    if count(kind, min(many, _MOST_ASKS)) > _MOST_LISTED:
        raise TooMany()
    return tuple([("program", len(kind), body) for body in sorted(_bodies((kind,), many))])
