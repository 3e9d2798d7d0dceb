"""Tables over the stretches of a rim, filled by the rule, and what is read off them.

An entry is a triple (sum, marks, kind). A table has, for each stretch (low, high), a dict of its
entries, each with the number of nestings of the stretch that make it. Weights are a dict of those
entries of a stretch that can be part of a sewing, each with how many ways the rest can be joined.
"""


def stretches_of(size):
    """All stretches of so many edges, ascending."""
    return [(low, high) for low in range(size + 1) for high in range(low + 2, size + 1, 2)]


def no_edges(terms):
    """The only entry of a stretch without edges."""
    return 0, (), terms.no_places()


def finished(terms, low, top, entry):
    """The kind when edges low and top - 1 finish the place within; None if it is not good."""
    total, marks, kind = entry
    corners = (low + 1,) if top == low + 2 else (low + 1, top - 1)
    total = total + sum([terms.amounts[corner] for corner in corners])
    if not terms.is_good(total, marks + terms.marked(corners)):
        return None
    return terms.with_place(kind, total)


def put_together(terms, top, high, kind, entry):
    """The entry that a finished kind and an entry of (top, high) make; None if too much gathers."""
    total, marks, others = entry
    if top < high:
        total = total + terms.amounts[top]
        marks = terms.marked((top,)) + marks
    if total > terms.full:
        return None
    return total, marks, tuple([one + other for one, other in zip(kind, others)])


def finished_kinds(terms, table, low, top):
    """The kinds that the joined edges low and top - 1 finish, each with how many nestings do."""
    found = {}
    if terms.lets(low, top - 1):
        for entry, many in table[(low + 1, top - 1)].items():
            kind = finished(terms, low, top, entry)
            if kind is not None:
                found[kind] = found.get(kind, 0) + many
    return found


def made(terms, table, low, high):
    """The entries that the rule makes for a stretch, each with how many nestings make it."""
    found = {}
    for top in range(low + 2, high + 1, 2):
        kinds_within = finished_kinds(terms, table, low, top)
        for entry, many in table[(top, high)].items():
            for kind, ways in kinds_within.items():
                together = put_together(terms, top, high, kind, entry)
                if together is not None:
                    found[together] = found.get(together, 0) + many * ways
    return found


def without_edges(terms):
    """The part of each table that tells of the stretches without edges."""
    return {(corner, corner): {no_edges(terms): 1} for corner in range(len(terms.amounts) + 1)}


def filled(terms):
    """The table of all entries that the rule makes."""
    table = without_edges(terms)
    size = len(terms.amounts)
    for width in range(2, size + 1, 2):
        for low in range(size - width + 1):
            table[(low, low + width)] = made(terms, table, low, low + width)
    return table


def whole_kind(terms, entry):
    """The kind of a whole nesting with this entry; None if the entry does not fit."""
    total, marks, kind = entry
    total = total + terms.amounts[0]
    if not terms.is_good(total, marks + terms.marked((0,))):
        return None
    kind = terms.with_place(kind, total)
    return kind if terms.counts_well(kind) else None


def fitting(terms, table):
    """The weights of the entries of the whole rim that fit."""
    # Without a stretch of all edges, with an odd number of them, nothing fits.
    whole = table.get((0, len(terms.amounts)), {})
    return {entry: 1 for entry in whole if whole_kind(terms, entry) is not None}


def weighed(row, weights):
    """How many ways there are with these entries of a stretch."""
    return sum([row[entry] * weights[entry] for entry in weights])


def outer_weights(terms, table, top, high, kind, weights):
    """The weights for (top, high), behind a finished kind, by those of the whole stretch."""
    found = {}
    for entry in table[(top, high)]:
        together = put_together(terms, top, high, kind, entry)
        if together in weights:
            found[entry] = weights[together]
    return found


def inner_weights(terms, table, low, top, high, weights):
    """The weights for (low + 1, top - 1), within the edges low and top - 1, by those of (low, high)."""
    ways = {}
    for kind in finished_kinds(terms, table, low, top):
        ways[kind] = weighed(table[(top, high)], outer_weights(terms, table, top, high, kind, weights))
    found = {}
    for entry in table[(low + 1, top - 1)]:
        many = ways.get(finished(terms, low, top, entry), 0)
        if many > 0:
            found[entry] = many
    return found
