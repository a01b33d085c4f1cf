"""Going through trees that may be nested deeper than calls can be."""


def grown(root, spread, put_together):
    """What becomes of a tree, from its root on.

    spread(node) tells a note of a node and the list of the nodes right within it;
    put_together(note, parts) tells what becomes of the node, parts being what became
    of those within it.
    """
    notes = []
    pending = [root]
    while pending:
        note, inner = spread(pending.pop())
        notes.append((note, len(inner)))
        pending.extend(inner)
    made = []
    # A node was noted before those within it, and these from right to left.
    for note, many in notes[::-1]:
        first = len(made) - many
        parts = made[first:]
        del made[first:]
        made.append(put_together(note, parts))
    return made[0]
