"""What plays tell of a strategy, and how two strategies differ."""

from playsense.plays import alone, program_sight


def pairs(play):
    """The pairs that the program's steps of a legal play tell, in their order."""
    found = []
    for number in range(1, len(play), 2):
        move, back = play[number]
        sight = program_sight(play[:number])
        found.append((alone(play, sight), (move, sight.index(back))))
    return tuple(found)


def learned(kind, plays):
    """("program", the least strategy that has some plays), or ("disagree", (i, m), (j, n))."""
    steps = {}
    first_told = {}
    for j, play in enumerate(plays):
        for at, (sight, step) in enumerate(pairs(play)):
            # The program's steps of a play are the odd ones.
            n = 2 * at + 1
            if sight not in steps:
                steps[sight] = step
                first_told[sight] = (j, n)
            elif steps[sight] != step:
                return ("disagree", first_told[sight], (j, n))
    return ("program", ("strategy", kind, tuple(sorted(steps.items()))))


def _steps_of(strategy):
    """The steps of a strategy by their sights."""
    return {sight: step for sight, step in strategy[2]}


def is_within(strategy, other):
    """Whether each row of a strategy is one of another one."""
    other_steps = _steps_of(other)
    return all([other_steps.get(sight) == step for sight, step in strategy[2]])


def common(strategy, other):
    """The strategy of the rows that two strategies of a kind have in common."""
    other_steps = _steps_of(other)
    rows = [(sight, step) for sight, step in strategy[2] if other_steps.get(sight) == step]
    return ("strategy", strategy[1], tuple(rows))


def joined(strategy, other):
    """("program", the strategy of the rows of both), or ("disagree", sight, step, other's step)."""
    other_steps = _steps_of(other)
    for sight, step in strategy[2]:
        if sight in other_steps and other_steps[sight] != step:
            return ("disagree", sight, step, other_steps[sight])
    return ("program", ("strategy", strategy[1], tuple(sorted(set(strategy[2] + other[2])))))


def apart(strategy, other):
    """(sight, step, other's step) where two strategies of a kind first differ, None if nowhere."""
    steps = _steps_of(strategy)
    other_steps = _steps_of(other)
    for sight in sorted(set([sight for sight, _ in strategy[2] + other[2]])):
        if steps.get(sight) != other_steps.get(sight):
            return (sight, steps.get(sight), other_steps.get(sight))
    return None
