"""What the tests share: odd values, plain counterparts of what the package does, and bent texts."""

import random

from rimsewn.papers import Denial, Paper

ODD_VALUES = (None, True, False, -1, 1.0, "", "0", "square ", b"0", [], (), {}, [0], (0, 1), [None], object(), {0})


def fields(error):
    """The class and the fields of an error."""
    return type(error).__name__, vars(error)


def raised(action, *args):
    """The name of the error that a call raises, and its fields in order; None if it raises none."""
    try:
        result = action(*args)
        if hasattr(result, "__next__"):
            list(result)
    except ValueError as error:
        return (type(error).__name__,) + tuple(vars(error).values())
    return None


def impostors(paper):
    """Values that look like a paper, but are none of its class."""
    for bases in ((), (Paper,), (Denial,)):
        other = type(type(paper).__name__, bases, {"__init__": lambda self: None})()
        vars(other).update(vars(paper))
        yield other


def joined(groups, size):
    """The groups that come of joining numbers below size, ascending tuples in the order of their least ones."""
    name = list(range(size))
    for one, other in groups:
        name = [name[one] if x == name[other] else x for x in name]
    found = {}
    for number in range(size):
        found.setdefault(name[number], []).append(number)
    return sorted(tuple(group) for group in found.values())


def random_seams(kind, faces, many, seed):
    """Some seams between sides of so many faces, drawn by a seed."""
    draw = random.Random(seed)
    sides = list(range(faces * (4 if kind == "square" else 3)))
    draw.shuffle(sides)
    return [sides[2 * k:2 * k + 2] for k in range(min(many, len(sides) // 2))]


def partner_rows(many):
    """The partners of all nestings of so many edges, by leaving out those of all pairings that cross."""
    def pairings(edges):
        if not edges:
            return [{}]
        first = edges[0]
        return [{first: other, other: first, **rest} for other in edges[1:]
                for rest in pairings([edge for edge in edges[1:] if edge != other])]

    def crosses(pairs):
        return any(a < c < pairs[a] < pairs[c] for a in pairs for c in pairs)

    if many <= 8:
        rows = [tuple(pairs[edge] for edge in range(many)) for pairs in pairings(list(range(many))) if not crosses(pairs)]
        return sorted(rows)
    rows = []
    for top in range(2, many + 1, 2):
        inner = partner_rows(top - 2) if top > 2 else [()]
        outer = partner_rows(many - top) if top < many else [()]
        for one in inner:
            for other in outer:
                rows.append((top - 1,) + tuple(x + 1 for x in one) + (0,) + tuple(x + top for x in other))
    return sorted(rows)


def corner_places(partners):
    """The places of a nesting: a joined edge begins where its partner ends."""
    size = len(partners)
    return joined([(edge, (partners[edge] + 1) % size) for edge in range(size)], size)


def sums_of(amounts, partners):
    return [sum(amounts[corner] for corner in place) for place in corner_places(partners)]


def plain_sewings(amounts, full):
    if len(amounts) % 2:
        return []
    return [row for row in partner_rows(len(amounts)) if max(sums_of(amounts, row)) <= full]


def plain_kind(amounts, full, partners):
    sums = sums_of(amounts, partners)
    return tuple(sums.count(k) for k in range(1, full))


def random_amounts(kind, edges, seed):
    """Amounts that a rim can have, drawn by a seed, rarely above a full round."""
    draw = random.Random(seed)
    full = 4 if kind == "square" else 6
    left = full * (edges - 2) // 2 - edges
    amounts = [1] * edges
    while left > 0:
        at = draw.randrange(edges)
        if amounts[at] < full or draw.random() < 0.05:
            amounts[at] += 1
            left -= 1
    return amounts


def sewn_amounts(kind, edges, seed):
    """Amounts of a rim that surely has a sewing, drawn by a seed."""
    draw = random.Random(seed)
    full = 4 if kind == "square" else 6
    while True:
        row = draw.choice(partner_rows(edges)) if edges <= 10 else random_row(edges, draw)
        groups = corner_places(row)
        if max(len(group) for group in groups) > full:
            continue
        totals = [len(group) for group in groups]
        left = full * (edges - 2) // 2 - edges
        while left > 0:
            at = draw.randrange(len(groups))
            if totals[at] < full:
                totals[at] += 1
                left -= 1
        amounts = [1] * edges
        for group, total in zip(groups, totals):
            for _ in range(total - len(group)):
                amounts[draw.choice(group)] += 1
        return amounts


def random_row(edges, draw):
    """The partners of some nesting."""
    row = [None] * edges

    def fill(low, high):
        if low < high:
            top = draw.randrange(low + 1, high, 2)
            row[low], row[top] = top, low
            fill(low + 1, top)
            fill(top + 1, high)

    fill(0, edges)
    return tuple(row)


def bent_texts(text, words=("", "0", "1", "7", "-1", "+1", "01", "x", "/", ":", "square", "0-1", "not", "99\n")):
    """The text with each word exchanged, left out, doubled, and with a word put in."""
    told = text.split(" ")
    found = []
    for at in range(len(told) + 1):
        for word in words:
            found.append(told[:at] + [word] + told[at:])
            found.append(told[:at] + [word] + told[at + 1:])
        found.append(told[:at] + told[at + 1:])
        found.append(told[:at] + told[at:at + 1] + told[at:])
        found.append(told[:at])
    return sorted({" ".join(row) for row in found} - {text})


def check_reading(case, read, texts, can_stand, lacks, is_value=lambda words: True):
    """Asks of each text what `read` should do with it.

    can_stand(words): whether the last word can stand behind the others, which can; lacks(words): whether
    a word is missing behind words that can stand; is_value(words): whether the whole makes a value.
    """
    for text in texts:
        words = text.split(" ")
        wrong = next((at for at in range(len(words)) if not can_stand(words[:at + 1])), None)
        told = raised(read, text)
        if wrong is not None:
            case.assertEqual(told, ("BadText", 0, wrong), text)
        elif lacks(words):
            case.assertEqual(told, ("BadText", 0, len(words)), text)
        elif not is_value(words):
            case.assertEqual(told, ("BadText", 0, len(words) - 1), text)
        else:
            case.assertIsNone(told, text)
            case.assertEqual(str(read(text)), text)


def check_no_texts(case, read):
    """What is no string at all."""
    for value in ODD_VALUES + (b"square 1 :", ["square"], ("x",), bytearray(b"x")):
        if not isinstance(value, str):
            case.assertEqual(raised(read, value), ("BadText", 0, 0))


def whole_number(word):
    """The integer from 0 on that a word writes, None if it writes none."""
    if word == "0":
        return 0
    if word and word[0] in "123456789" and all(sign in "0123456789" for sign in word) and len(word) <= 60:
        return int(word)
    return None
