"""The kinds of terms.

Terms may be nested deeper than calls can be, so nothing here calls itself.
"""

from playsense.errors import KindFault


def _inner_parts(part, names):
    """The pairs of a part right within this one and the kinds of the names around it."""
    form = part[0]
    if form == "fun":
        _, name, kind, body = part
        return [(body, {**names, name: kind})]
    if form in ("apply", "if"):
        return [(inner, names) for inner in part[1:]]
    return []


def _parts(term):
    """A term's parts with their paths and names, parts before what they are part of."""
    found = []
    pending = [(term, (), {})]
    while pending:
        part, path, names = pending.pop()
        found.append((part, path, names))
        for number, (inner, inner_names) in enumerate(_inner_parts(part, names)):
            pending.append((inner, path + (number,), inner_names))
    # A part was found before its own parts, and these from right to left.
    return found[::-1]


def _kind_of_name(name, path, names):
    if name not in names:
        raise KindFault(path, "unknown name")
    return names[name]


def _kind_of_application(path, function_kind, argument_kind):
    if function_kind == ():
        raise KindFault(path, "no function")
    if argument_kind != function_kind[0]:
        raise KindFault(path, "other argument")
    return function_kind[1:]


def _kind_of_if(path, part_kinds):
    for number, kind in enumerate(part_kinds):
        if kind != ():
            raise KindFault(path + (number,), "no answer")
    return ()


def _kind_of_part(part, path, names, part_kinds):
    """The kind of a part, by the kinds of the parts right within it."""
    form = part[0]
    if form == "name":
        return _kind_of_name(part[1], path, names)
    if form == "fun":
        return (part[2],) + part_kinds[0]
    if form == "apply":
        return _kind_of_application(path, part_kinds[0], part_kinds[1])
    if form == "if":
        return _kind_of_if(path, part_kinds)
    return ()


def kind_of(term):
    """The kind of a term; raises KindFault(path, reason)."""
    kinds = {}
    for part, path, names in _parts(term):
        many = len(_inner_parts(part, names))
        part_kinds = [kinds[path + (number,)] for number in range(many)]
        kinds[path] = _kind_of_part(part, path, names, part_kinds)
    return kinds[()]
