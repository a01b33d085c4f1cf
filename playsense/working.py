"""Working out what terms and programs begin with, no further than is needed.

The beginning of what is of the kind () is 0, 1, None if it never answers, or an Asking.
Calls may stand deeper within one another than those of Python can, so what is still to
be done stands in a list.
"""


class Argument:
    """An argument of a program that is being found: nothing is known of it, it is asked."""

    def __init__(self, level, number, kind):
        self.level = level
        self.number = number
        self.kind = kind


class Asking:
    """An ask of an Argument that is given something, and what goes on behind 0 and behind 1."""

    def __init__(self, argument, given, zero, one):
        self.argument = argument
        self.given = given
        self.zero = zero
        self.one = one


class Delayed:
    """A part of a term or a program that waits to be needed, and what stands around it.

    For a part of a term the scope tells what the names mean, for a part of a program
    what the programs around it are given. The last beginning is kept: a name that is
    used again and again would take twice as long for each one that it stands for.
    """

    def __init__(self, part, scope):
        self.part = part
        self.scope = scope
        self.last_given = None
        self.last_beginning = None


class Work:
    """What is still to be done: a part to be gone into, or a beginning that was found."""

    def __init__(self):
        self.waiting = []
        self.task = None
        self.beginning = None

    def tell(self, beginning):
        self.task = None
        self.beginning = beginning

    def go_into(self, part, scope, given):
        self.task = (part, scope, given)

    def enter(self, delayed, given):
        """Goes into what is Delayed or an Argument, and is given something."""
        if isinstance(delayed, Argument):
            self.tell(Asking(delayed, given, Delayed(("answer", 0), {}), Delayed(("answer", 1), {})))
        elif delayed.last_given == given:
            self.tell(delayed.last_beginning)
        else:
            self.waiting.append(Keeping(delayed, given))
            self.go_into(delayed.part, delayed.scope, given)

    def step(self):
        """Goes one step into a part, or takes a beginning to what waits for it."""
        if self.task is None:
            self.waiting.pop().take(self)
        else:
            part, scope, given = self.task
            rule = _RULES[part[0]]
            rule(self, part, scope, given)


class Keeping:
    """Keeps the beginning of what is Delayed."""

    def __init__(self, delayed, given):
        self.delayed = delayed
        self.given = given

    def take(self, work):
        self.delayed.last_given = self.given
        self.delayed.last_beginning = work.beginning


class Choosing:
    """Goes on with one of two parts, as the beginning of a test tells."""

    def __init__(self, zero, one, scope):
        self.zero = zero
        self.one = one
        self.scope = scope

    def take(self, work):
        test = work.beginning
        if isinstance(test, Asking):
            work.tell(Asking(test.argument, test.given, self.behind(test.zero), self.behind(test.one)))
        elif test == 0:
            work.go_into(self.zero, self.scope, ())
        elif test == 1:
            work.go_into(self.one, self.scope, ())

    def behind(self, rest):
        """The same choice, by the rest of a test that asks."""
        return Delayed(("choice", rest, self.zero, self.one), self.scope)


def _work_out_name(work, part, scope, given):
    work.enter(scope[part[1]], given)


def _work_out_fun(work, part, scope, given):
    _, name, _, body = part
    work.go_into(body, {**scope, name: given[0]}, given[1:])


def _work_out_application(work, part, scope, given):
    _, function, argument = part
    # A name stands for the very thing that it means, so that this is worked out once.
    handed_on = scope[argument[1]] if argument[0] == "name" else Delayed(argument, scope)
    work.go_into(function, scope, (handed_on,) + given)


def _work_out_if(work, part, scope, given):
    _, test, yes, no = part
    work.waiting.append(Choosing(no, yes, scope))
    work.go_into(test, scope, ())


def _work_out_choice(work, part, scope, given):
    _, test, zero, one = part
    work.waiting.append(Choosing(zero, one, scope))
    work.enter(test, ())


def _work_out_answer(work, part, scope, given):
    work.tell(part[1])


def _work_out_stop(work, part, scope, given):
    work.tell(None)


def _work_out_program(work, part, scope, given):
    work.go_into(part[2], scope + (given,), ())


def _work_out_ask(work, part, scope, given):
    _, up, k, arguments, zero, one = part
    work.waiting.append(Choosing(zero, one, scope))
    work.enter(scope[-1 - up][k], tuple([Delayed(argument, scope) for argument in arguments]))


_RULES = {
    "name": _work_out_name,
    "fun": _work_out_fun,
    "apply": _work_out_application,
    "if": _work_out_if,
    "choice": _work_out_choice,
    "answer": _work_out_answer,
    "say": _work_out_answer,
    "stop": _work_out_stop,
    "program": _work_out_program,
    "ask": _work_out_ask,
}


def beginning_of(delayed, given):
    """What is found first of something Delayed that is given all its arguments."""
    work = Work()
    work.enter(delayed, given)
    # What is gone into is waited for, until its beginning is found.
    while work.waiting:
        work.step()
    return work.beginning
