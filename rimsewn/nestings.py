"""Nestings: all edges of a rim in pairs that do not cross."""

from rimsewn.checks import is_row, is_within
from rimsewn.errors import BadNesting, BadNumber, BadText, Crossing
from rimsewn.rims import MOST_EDGES, need_corner
from rimsewn.texts import natural_of, words_of

MOST_LISTED = 12


def is_pairing(value):
    """Whether any value tells for each edge its partner; pairs may cross."""
    if not is_row(value) or len(value) % 2 != 0 or not is_within(len(value), 2, MOST_EDGES):
        return False
    if not all([is_within(partner, 0, len(value) - 1) for partner in value]):
        return False
    return all([value[edge] != edge and value[value[edge]] == edge for edge in range(len(value))])


def first_crossing(partners):
    """The least edge whose pair is crossed, with the least edge of such a pair behind it; None if none is."""
    for one in range(len(partners)):
        for other in range(one + 1, partners[one]):
            if partners[other] > partners[one]:
                return one, other
    return None


def places_by(partners):
    """The places to which these pairs bring the rim corners."""
    found = []
    seen = set()
    for start in range(len(partners)):
        if start not in seen:
            place = [start]
            # The edge that ends at a rim corner is joined to one that begins at its place.
            corner = partners[start - 1]
            while corner != start:
                place.append(corner)
                corner = partners[corner - 1]
            for corner in place:
                seen.add(corner)
            found.append(tuple(sorted(place)))
    return tuple(found)


class Nesting:
    """For each edge its partner, so that no two pairs cross."""

    def __init__(self, partners):
        if not is_pairing(partners):
            raise BadNesting("partners")
        crossing = first_crossing(partners)
        if crossing is not None:
            one, other = crossing
            raise Crossing(one, other)
        self.partners = tuple(partners)
        self.pairs = tuple([(edge, partner) for edge, partner in enumerate(partners) if edge < partner])
        self.places = places_by(self.partners)

    def __len__(self):
        return len(self.partners)

    def meets(self, one, other):
        """Whether two rim corners meet."""
        need_corner(one, len(self))
        need_corner(other, len(self))
        return any([one in place and other in place for place in self.places])

    def turned(self, many):
        """The Nesting of which edge 0 is edge many of this one."""
        need_corner(many, len(self))
        moved = self.partners[many:] + self.partners[:many]
        return Nesting([(partner - many) % len(self) for partner in moved])

    def mirrored(self):
        """The Nesting told the other way about; rim corner 0 stays."""
        return Nesting([len(self) - 1 - partner for partner in self.partners[::-1]])

    def __eq__(self, other):
        return isinstance(other, Nesting) and self.partners == other.partners

    def __str__(self):
        return " ".join([f"{one}-{other}" for one, other in self.pairs])

    @staticmethod
    def read(text):
        """The Nesting of a text."""
        return Nesting(read_partners(words_of(text)))


def need_nesting(nesting):
    """Refuses what is no nesting."""
    if not isinstance(nesting, Nesting):
        raise BadNesting("nesting")


def pair_of(word):
    """The pair of edges that a word writes, None if it writes none."""
    numbers = [natural_of(part) for part in word.split("-")]
    if len(numbers) != 2 or None in numbers:
        return None
    one, other = numbers
    return one, other


def read_partners(words):
    """The partners that these words tell."""
    partner_of = {}
    for at, word in enumerate(words):
        pair = pair_of(word)
        if pair is None or not can_follow(pair, partner_of):
            raise BadText(0, at)
        one, other = pair
        partner_of[one] = other
        partner_of[other] = one
    if least_unpaired(partner_of) < len(partner_of):
        raise BadText(0, len(words))
    return [partner_of[edge] for edge in range(len(partner_of))]


def least_unpaired(partner_of):
    """The least edge that has no partner yet."""
    edge = 0
    while edge in partner_of:
        edge += 1
    return edge


def can_follow(pair, partner_of):
    """Whether a pair can stand behind the pairs ahead of it."""
    one, other = pair
    if one != least_unpaired(partner_of) or other > MOST_EDGES - 1:
        return False
    if other < one or (other - one) % 2 != 1:
        return False
    return all([not edge < one < partner or other < partner for edge, partner in partner_of.items()])


def partner_rows(first, many):
    """The partners of all nestings of so many edges, from the first one on, in order."""
    if many == 0:
        return [()]
    rows = []
    for within in range(0, many, 2):
        partner = first + within + 1
        behind = partner_rows(partner + 1, many - within - 2)
        for inner in partner_rows(first + 1, within):
            rows.extend([(partner,) + inner + (first,) + outer for outer in behind])
    return rows


def nestings(many):
    """Yields all Nestings of so many edges, in the order of partners."""
    if not is_within(many, 2, MOST_LISTED) or many % 2 != 0:
        raise BadNumber("many")
    for partners in partner_rows(0, many):
        yield Nesting(partners)
