"""Normal forms of terms, and the plain answers of programs."""

from playsense.checking import kind_of
from playsense.errors import TooMany
from playsense.programs import body_of
from playsense.trees import grown
from playsense.working import Argument, Asking, Delayed, beginning_of

_MOST_ASKS = 1000
_MOST_WITHIN = 60


def _arguments_of(kind, level):
    """What a program of a kind is given while it is being found."""
    return tuple([Argument(level, number, inner) for number, inner in enumerate(kind)])


class Finder:
    """Finds a program body by body, as long as it is not too large.

    A body is told by its level, something Delayed and what this is given, and the number
    of asks that it stands within.
    """

    def __init__(self):
        self.asks = 0

    def spread(self, node):
        """What a body is grown of: its note and the bodies right within it."""
        level, delayed, given, around = node
        beginning = beginning_of(delayed, given)
        if beginning is None:
            return ("stop",), []
        if isinstance(beginning, Asking):
            self.count_ask(around + 1)
            return _spread_ask(beginning, level, around + 1)
        return ("say", beginning), []

    def count_ask(self, within):
        self.asks += 1
        if self.asks > _MOST_ASKS or within > _MOST_WITHIN:
            raise TooMany()


def _spread_ask(asking, level, around):
    argument = asking.argument
    note = ("ask", level - argument.level, argument.number, argument.kind)
    inner = [
        (level + 1, given, _arguments_of(kind, level + 1), around)
        for given, kind in zip(asking.given, argument.kind)
    ]
    return note, inner + [(level, asking.zero, (), around), (level, asking.one, (), around)]


def normal(term):
    """The program that is the normal form of a term; raises TooMany()."""
    kind = kind_of(term)
    finder = Finder()
    whole = (0, Delayed(term, {}), _arguments_of(kind, 0), 0)
    return ("program", len(kind), grown(whole, finder.spread, body_of))


def plain(program, arguments):
    """What a program answers that is given programs, None if it never answers."""
    given = tuple([Delayed(argument, ()) for argument in arguments])
    return beginning_of(Delayed(program, ()), given)
