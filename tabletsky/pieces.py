"""Pieces of tablets: torn off, joined, and laid where they can stand together."""

from tabletsky.errors import Clash, NoMatch, NoTablet, TooMany
from tabletsky.kinds import is_list
from tabletsky.rowsets import ahead, rows_in, set_of
from tabletsky.sixties import is_whole
from tabletsky.tablets import LOST, MOST_TABLET_ROWS, blank_of, made_like, return_for, standing_rows, texts_of

MOST_PIECES = 12
MOST_WAYS = 2000


def torn(tablet, *, first, many):
    """So many rows of a tablet, from a first one on."""
    if not is_whole(first) or not is_whole(many) or first < 0 or many < 1 or first + many > len(tablet):
        raise NoTablet("rows")
    return made_like(tablet, tablet.rows()[first:first + many])


def _refuse_unlike(tablets):
    """Refuses pieces that don't match."""
    names, forms = tablets[0].names(), tablets[0].forms()
    for tablet in tablets[1:]:
        if tablet.names() != names or tablet.forms() != forms:
            raise NoMatch("pieces have the same names and forms, in the same order")


def joined(one, other, *, shift):
    """The tablet of two pieces, the other one's first row so many rows behind the one's."""
    return joined_all([(one, 0), (other, shift)])


def joined_all(pieces):
    """The tablet of pieces, tuples (tablet, at), each with its first row at the row at."""
    if not is_list(pieces, 1, MOST_PIECES):
        raise TooMany("1 to 12 pieces are joined")
    _refuse_unlike([tablet for tablet, _ in pieces])
    begin = min([at for _, at in pieces])
    many = max([at + len(tablet) for tablet, at in pieces]) - begin
    if many > MOST_TABLET_ROWS:
        raise TooMany("a tablet has no more than 60 rows")
    whole, _ = pieces[0]
    lying = [[[blank_of(form) for form in whole.forms()]] for _ in range(many)]
    for tablet, at in pieces:
        for number, cells in enumerate(tablet.rows()):
            lying[at - begin + number].append(cells)
    names = whole.names()
    return made_like(whole, [_joined_row(rows, number, names) for number, rows in enumerate(lying)])


def _joined_row(rows, number, names):
    """The cells of the rows that lie one upon another at the row of a number."""
    return [_joined_cell([cells[at] for cells in rows], number, name) for at, name in enumerate(names)]


def _joined_cell(cells, number, name):
    """The cell of those that lie one upon another."""
    signs = []
    for place in range(len(cells[0])):
        known = [cell[place] for cell in cells if cell[place] != LOST]
        if len(set(known)) > 1:
            raise Clash(number, name, place)
        signs.append(known[0] if known else LOST)
    return "".join(signs)


def _standing_sets(tablets, table, most):
    """The number of rows of the return of pieces that match, and for each the set of those at which it can stand."""
    _refuse_unlike(tablets)
    many = return_for(tablets[0], table, most)
    columns = texts_of(tablets[0], table, many)
    return many, [set_of(standing_rows(tablet, columns)) for tablet in tablets]


def together(one, other, table, *, shift, most=5000):
    """The rows of a return at which the one can stand and the other so many rows behind it."""
    many, (own, others) = _standing_sets([one, other], table, most)
    return rows_in(own & ahead(others, shift, many))


def _shifts_up_to(farthest):
    return list(range(-farthest, farthest + 1))


def shifts(one, other, table, *, farthest=59, most=5000):
    """All shifts, none farther, by which the other can stand behind the one at some row."""
    many, (own, others) = _standing_sets([one, other], table, most)
    return [shift for shift in _shifts_up_to(farthest) if own & ahead(others, shift, many)]


def _laying(rows, among, farthest, many):
    """By shifts, those of some rows from which a piece can stand so far behind, rows being where it stands."""
    laying = {}
    for shift in _shifts_up_to(farthest):
        left = among & ahead(rows, shift, many)
        if left:
            laying[shift] = left
    return laying


def _left_by_all(standing, farthest, many):
    """The rows at which the first piece can stand, and each other one within the farthest shift."""
    left = standing[0]
    for rows in standing[1:]:
        reached = 0
        for shift in _shifts_up_to(farthest):
            reached = reached | ahead(rows, shift, many)
        left = left & reached
    return left


def laid(pieces, table, *, farthest=59, most=5000):
    """All ways to lay pieces: lists of the shifts of all but the first one."""
    if not is_list(pieces, 2, MOST_PIECES):
        raise TooMany("2 to 12 pieces are laid")
    many, standing = _standing_sets(pieces, table, most)
    left = _left_by_all(standing, farthest, many)
    # Each row that is left has a shift of each piece, so no way that is begun comes to nothing.
    ways = [([], left)] if left else []
    for rows in standing[1:]:
        ways = _longer_ways(ways, _laying(rows, left, farthest, many))
    return [shifts_told for shifts_told, _ in ways]


def _longer_ways(ways, laying):
    """All ways gone on by one piece more, each with the rows that are left of it."""
    longer = []
    for begun, left in ways:
        for shift, rows in laying.items():
            if left & rows:
                longer.append((begun + [shift], left & rows))
        if len(longer) > MOST_WAYS:
            raise TooMany("there are more than 2,000 ways")
    return longer
