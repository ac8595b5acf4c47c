"""Sets of rows of a return, as whole numbers: the bit of a row, from row 0 on, tells whether it is among them.

So what is asked of all rows of a return is reckoned for all of them at once.
"""


def set_of(rows):
    """The set of these rows."""
    made = 0
    for row in rows:
        made = made | 1 << row
    return made


def all_rows(many):
    """The set of all rows of a return of so many."""
    return (1 << many) - 1


def rows_in(rows):
    """The rows of a set, rising."""
    bits = f"{rows:b}"
    return [row for row, bit in enumerate(bits[::-1]) if bit == "1"]


def ahead(rows, shift, many):
    """The set of those rows of a return of so many that lie so far ahead of one of a set."""
    shift = shift % many
    # What goes out at row 0 comes in again at the return's end.
    return (rows >> shift | rows << (many - shift)) & all_rows(many)


class Tally:
    """A count for each row of a return: of the digits of all counts, each is the set of rows that have it.

    The digits are those of numbers written by twos, the last ones first.
    """

    def __init__(self):
        self._digits = []

    def one_more(self, rows):
        """Counts one more at each row of a set."""
        at = 0
        while rows:
            if at == len(self._digits):
                self._digits.append(0)
            carried = self._digits[at] & rows
            self._digits[at] = self._digits[at] ^ rows
            rows = carried
            at = at + 1

    def counted(self):
        """The set of rows of which the count is not 0."""
        rows = 0
        for digit in self._digits:
            rows = rows | digit
        return rows

    def fewest(self, rows):
        """The least count of the rows of a set, which has some, and the set of those that have it."""
        least = 0
        for digit in self._digits[::-1]:
            without = rows & ~digit
            least = 2 * least
            if without:
                rows = without
            else:
                least = least + 1
        return least, rows
