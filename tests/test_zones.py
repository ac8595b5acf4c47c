"""Points 10 and 11: zones; points 2 and 3 as they hold for these."""

import unittest
from fractions import Fraction

from helpers import FAR, NO_WORTHS, fraction_of, soon, worth_of
from tabletsky.errors import NoRule, TooMany
from tabletsky.zones import Zones

# Worths by this many parts have tops within the bounds of point 3, too.
FINE = 10 ** 10


def whole(*numbers):
    return [(number, 1) for number in numbers]


# Of each: ring, borders, steps, at.
RINGS = (
    ((12, 1), whole(0), whole(5), (0, 1)),
    ((12, 1), whole(0), whole(5), (23, 2)),
    ((12, 1), whole(0), whole(12), (7, 1)),
    ((10, 1), whole(0), whole(35), (4, 1)),
    ((360, 1), whole(0, 173), [(30, 1), (225, 8)], (100, 1)),
    ((10, 1), whole(0, 4), whole(2, 3), (0, 1)),
    ((10, 1), whole(0, 4), whole(2, 3), (4, 1)),
    ((10, 1), whole(0, 4), whole(2, 3), (99, 10)),
    ((10, 1), whole(0, 4), whole(200, 30), (3, 1)),
    ((10, 1), whole(0, 1, 2, 3), whole(5, 7, 1, 9), (5, 2)),
    ((7, 3), [(0, 1), (1, 6), (5, 4)], [(1, 7), (9, 4), (2, 5)], (5, 4)),
    ((12, 1), whole(*range(12)), whole(*range(1, 13)), (1, 2)),
    ((12, 1), whole(*range(12)), whole(*range(30, 18, -1)), (23, 2)),
)


def zones_of(told):
    ring, borders, steps, at = told
    return Zones(ring=ring, borders=borders, steps=steps, at=at)


def ends_of(told):
    return [fraction_of(border) for border in told[1][1:]] + [fraction_of(told[0])]


def gone_on(told, place):
    """The next row's place, and how often it came round on the way, by the words of point 10."""
    ends, steps = ends_of(told), [fraction_of(step) for step in told[2]]
    zone = len([end for end in ends if end <= place])
    share, rounds = Fraction(1), 0
    while place + share * steps[zone] >= ends[zone]:
        share -= (ends[zone] - place) / steps[zone]
        place = ends[zone]
        zone += 1
        if zone == len(ends):
            place, zone, rounds = Fraction(0), 0, rounds + 1
    return place + share * steps[zone], rounds


def rows_ahead(told, many):
    places = [fraction_of(told[3])]
    while len(places) < many:
        places.append(gone_on(told, places[-1])[0])
    return places


class OfRows(unittest.TestCase):
    """Point 10: the place at each row."""

    def test_a_ring_of_one_zone(self):
        zones = zones_of(RINGS[0])
        told = [zones.value(row) for row in range(-3, 7)]
        self.assertEqual(told, whole(9, 2, 7, 0, 5, 10, 3, 8, 1, 6))

    def test_the_share_that_is_left_is_gone_on_in_the_next_zone(self):
        zones = zones_of(((10, 1), whole(0, 4), whole(2, 3), (3, 1)))
        # Half a step of 2 ends the zone at 4; half a step of 3 leads on from there.
        self.assertEqual([zones.value(row) for row in range(3)], [(3, 1), (11, 2), (17, 2)])
        # Half a step of 3 ends the ring; half a step of 2 leads on from its beginning.
        self.assertEqual([zones.value(row) for row in range(3, 6)], [(1, 1), (3, 1), (11, 2)])

    def test_a_step_over_several_zones(self):
        zones = zones_of(((12, 1), whole(0, 1, 2, 3), whole(4, 4, 8, 6), (0, 1)))
        # A quarter, a quarter and an eighth of a row for the first three zones, three eighths in the fourth.
        self.assertEqual(zones.value(1), (21, 4))
        self.assertEqual(zones.far(1), (21, 4))

    def test_a_step_several_times_round(self):
        zones = zones_of(RINGS[3])
        self.assertEqual([zones.value(row) for row in range(4)], whole(4, 9, 4, 9))
        self.assertEqual([zones.far(row) for row in range(4)], whole(4, 39, 74, 109))
        # Round takes 4/200 and 6/30 rows: so it is 4 times round, and 3/25 of a row more.
        zones = zones_of(((10, 1), whole(0, 4), whole(200, 30), (0, 1)))
        self.assertEqual((zones.value(1), zones.far(1)), ((7, 1), (47, 1)))

    def test_a_step_that_ends_just_at_a_border(self):
        zones = zones_of(RINGS[5])
        self.assertEqual([zones.value(row) for row in range(6)], whole(0, 2, 4, 7, 0, 2))
        self.assertEqual([zones.value(row) for row in range(-5, 1)], whole(7, 0, 2, 4, 7, 0))

    def test_a_place_at_a_border_goes_on_by_the_step_behind_it(self):
        self.assertEqual(zones_of(RINGS[6]).value(1), (7, 1))
        self.assertEqual(zones_of(RINGS[6]).value(-1), (2, 1))

    def test_places_at_the_ring_s_beginning_and_just_below_its_end(self):
        ring, borders, steps = (10, 1), whole(0, 4), whole(2, 3)
        zones = Zones(ring=ring, borders=borders, steps=steps, at=(0, 1))
        self.assertEqual([zones.value(row) for row in (-1, 0, 1)], whole(7, 0, 2))
        at = (10 * FINE - 1, FINE)
        zones = Zones(ring=ring, borders=borders, steps=steps, at=at)
        self.assertEqual(zones.value(0), at)
        # What is left to the ring's end is a 3 * FINE-th of a step.
        self.assertEqual(zones.value(1), worth_of(2 * (1 - Fraction(1, 3 * FINE))))

    def test_by_the_words_of_the_document(self):
        for told in RINGS:
            with self.subTest(told=told):
                zones = zones_of(told)
                self.assertEqual([fraction_of(zones.value(row)) for row in range(90)], rows_ahead(told, 90))

    def test_each_row_goes_on_from_the_one_ahead_of_it(self):
        for told in RINGS:
            with self.subTest(told=told):
                zones = zones_of(told)
                for row in range(-90, 3):
                    after, _ = gone_on(told, fraction_of(zones.value(row)))
                    self.assertEqual(zones.value(row + 1), worth_of(after))

    def test_a_border_that_changes_no_step_changes_nothing(self):
        one = Zones(ring=(12, 1), borders=whole(0), steps=whole(5), at=(3, 1))
        other = Zones(ring=(12, 1), borders=whole(0, 1, 6, 7), steps=whole(5, 5, 5, 5), at=(3, 1))
        for row in range(-30, 30):
            self.assertEqual((one.value(row), one.far(row)), (other.value(row), other.far(row)))
        self.assertEqual(one.returns(), other.returns())


class OfFarRows(unittest.TestCase):
    """Points 3 and 10: rows and worths at the bounds of numbers."""

    def test_far_rows_of_a_short_return(self):
        for told in RINGS:
            zones = zones_of(told)
            rows, rounds = zones.returns()
            with soon():
                for row in (FAR, FAR - 1, -FAR, 1 - FAR):
                    self.assertEqual(zones.value(row), zones.value(row % rows))
                    way = fraction_of(zones.far(row)) - fraction_of(zones.far(row % rows))
                    self.assertEqual(way, row // rows * rounds * fraction_of(told[0]))

    def test_far_rows_of_a_long_return(self):
        with soon():
            zones = Zones(ring=(FAR, 1), borders=whole(0, 1), steps=whole(1, 1), at=(0, 1))
            self.assertEqual(zones.returns(), (FAR, 1))
            for row in (1, 7, FAR // 3, FAR - 1):
                self.assertEqual((zones.value(row), zones.far(row)), ((row, 1), (row, 1)))
                self.assertEqual((zones.value(-row), zones.far(-row)), ((FAR - row, 1), (-row, 1)))
            self.assertEqual((zones.value(FAR), zones.far(FAR)), ((0, 1), (FAR, 1)))

    def test_steps_that_go_very_often_round(self):
        with soon():
            zones = Zones(ring=(1, FAR), borders=whole(0), steps=[(FAR - 1, 1)], at=(0, 1))
            self.assertEqual(zones.far(FAR), (FAR * (FAR - 1), 1))
            self.assertEqual(zones.returns(), (1, FAR * (FAR - 1)))
            self.assertEqual([zones.value(-FAR), zones.rows_of((0, 1))], [(0, 1), [0]])

    def test_bottoms_that_have_nothing_in_common(self):
        bottoms = [FAR - number for number in (1, 11, 39, 61, 63, 91, 99, 101, 103, 107, 109, 113)]
        borders = [(0, 1)] + [worth_of(Fraction(number * FAR // 12, bottoms[number])) for number in range(1, 12)]
        steps = [worth_of(Fraction((number + 1) * FAR // 40, bottom)) for number, bottom in enumerate(bottoms)]
        told = ((FAR, FAR - 121), borders, steps, (1, FAR - 123))
        with soon():
            zones = zones_of(told)
            for row in (-2, -1, 0, 1):
                after, _ = gone_on(told, fraction_of(zones.value(row)))
                self.assertEqual(zones.value(row + 1), worth_of(after))
            rows, rounds = zones.returns()
            self.assertEqual(zones.value(-rows), told[3])
            way = fraction_of(zones.far(rows)) - fraction_of(told[3])
            self.assertEqual(way, rounds * fraction_of(told[0]))


class OfRefusals(unittest.TestCase):
    """Point 10: what is none of this."""

    SO = {"ring": (10, 1), "borders": whole(0, 4, 7), "steps": whole(2, 3, 1), "at": (5, 1)}

    def why_of(self, **told):
        with self.assertRaises(NoRule) as caught:
            Zones(**{**self.SO, **told})
        return caught.exception.why

    def test_a_ring_that_is_not_so(self):
        for ring in (*NO_WORTHS, (0, 1), (-1, 1), (-10, 1), (-1, FAR)):
            with self.subTest(ring=ring):
                self.assertEqual(self.why_of(ring=ring), "ring")

    def test_borders_that_are_no_such_list(self):
        for borders in (None, True, 0, 3, "", "0", {}, {(0, 1): 1}, (), tuple(whole(0, 4, 7)), (0, 1)):
            with self.subTest(borders=borders):
                self.assertEqual(self.why_of(borders=borders), "borders")
                self.assertEqual(self.why_of(borders=borders, steps=[]), "borders")

    def test_how_many_borders(self):
        self.assertEqual(self.why_of(borders=[], steps=[]), "borders")
        for many in (1, 12):
            zones = Zones(ring=(13, 1), borders=whole(*range(many)), steps=whole(*[1] * many), at=(5, 1))
            self.assertEqual(zones.zone_of((25, 2)), many - 1)
        for many in (13, 14):
            told = {"borders": whole(*range(many)), "steps": whole(*[1] * many)}
            self.assertEqual(self.why_of(ring=(60, 1), **told), "borders")

    def test_borders_that_are_no_worths(self):
        for at in range(3):
            for thing in NO_WORTHS:
                borders = whole(0, 4, 7)
                borders[at] = thing
                self.assertEqual(self.why_of(borders=borders), "borders")

    def test_borders_that_do_not_begin_at_nought(self):
        for first in ((1, 1), (1, FAR), (-1, 1), (-1, FAR)):
            self.assertEqual(self.why_of(borders=[first, (4, 1), (7, 1)]), "borders")
            self.assertEqual(self.why_of(borders=[first], steps=whole(1)), "borders")

    def test_borders_that_do_not_rise(self):
        for borders in (whole(0, 0, 7), whole(0, 7, 7), whole(0, 7, 4), whole(0, -1, 4), [(0, 1), (1, 2), (1, 3)]):
            self.assertEqual(self.why_of(borders=borders), "borders")

    def test_borders_at_the_size_or_beyond(self):
        for last in ((10, 1), (11, 1), (10 * FINE + 1, FINE)):
            self.assertEqual(self.why_of(borders=[(0, 1), (4, 1), last]), "borders")
        Zones(**{**self.SO, "borders": [(0, 1), (4, 1), (10 * FINE - 1, FINE)]})

    def test_steps_that_are_no_such_list(self):
        for steps in (None, False, 0, "", {}, (), tuple(whole(2, 3, 1)), [], whole(2), whole(2, 3),
                      whole(2, 3, 1, 1)):
            with self.subTest(steps=steps):
                self.assertEqual(self.why_of(steps=steps), "steps")

    def test_steps_that_are_no_worths_above_nought(self):
        for at in range(3):
            for thing in (*NO_WORTHS, (0, 1), (-1, 1), (-1, FAR)):
                steps = whole(2, 3, 1)
                steps[at] = thing
                self.assertEqual(self.why_of(steps=steps), "steps")
        Zones(**{**self.SO, "steps": [(1, FAR), (FAR, 1), (11, 1)]})

    def test_an_at_that_is_not_so(self):
        for at in (*NO_WORTHS, (-1, 1), (-1, FAR), (10, 1), (11, 1), (10 * FINE + 1, FINE)):
            with self.subTest(at=at):
                self.assertEqual(self.why_of(at=at), "at")
        for at in ((0, 1), (10 * FINE - 1, FINE)):
            self.assertEqual(Zones(**{**self.SO, "at": at}).value(0), at)

    def test_the_first_one_is_told(self):
        names = ("ring", "borders", "steps", "at")
        for first in range(4):
            for second in range(first + 1, 4):
                with self.subTest(first=names[first], second=names[second]):
                    self.assertEqual(self.why_of(**{names[first]: None, names[second]: None}), names[first])
        self.assertEqual(self.why_of(ring=(0, 1), borders=whole(1), steps=whole(0), at=(-1, 1)), "ring")
        self.assertEqual(self.why_of(borders=whole(1), steps=whole(0), at=(-1, 1)), "borders")
        self.assertEqual(self.why_of(steps=whole(0), at=(-1, 1)), "steps")

    def test_how_it_is_handed_in(self):
        with self.assertRaises(TypeError):
            Zones((10, 1), whole(0), whole(3), (5, 1))
        zones = Zones(at=(5, 1), steps=whole(3), borders=whole(0), ring=(10, 1))
        self.assertEqual((zones.value(row=2), zones.far(row=2)), ((1, 1), (11, 1)))
        self.assertEqual((zones.zone_of(thing=(5, 1)), zones.rows_of(thing=(5, 1))), (0, [0]))


class OfWhatIsHandedIn(unittest.TestCase):
    """Point 2: nothing that is handed in is kept or changed."""

    def test_lists_are_not_kept(self):
        borders, steps = whole(0, 4), whole(2, 3)
        zones = Zones(ring=(10, 1), borders=borders, steps=steps, at=(3, 1))
        self.assertEqual((borders, steps), (whole(0, 4), whole(2, 3)))
        first = [(zones.value(row), zones.far(row), zones.zone_of((5, 1))) for row in range(-20, 20)]
        borders[1], steps[0] = (9, 1), (100, 1)
        borders.append((11, 1))
        del steps[1]
        second = [(zones.value(row), zones.far(row), zones.zone_of((5, 1))) for row in range(-20, 20)]
        self.assertEqual(first, second)
        self.assertEqual(zones.returns(), (4, 1))

    def test_what_is_refused_changes_nothing(self):
        borders, steps = whole(0, 4), whole(2, 0)
        with self.assertRaises(NoRule):
            Zones(ring=(10, 1), borders=borders, steps=steps, at=(3, 1))
        self.assertEqual((borders, steps), (whole(0, 4), whole(2, 0)))


class OfWays(unittest.TestCase):
    """Point 11: far and zone_of."""

    def test_far_counts_the_rounds(self):
        zones = zones_of(RINGS[0])
        self.assertEqual([zones.far(row) for row in range(-5, 6)], whole(*range(-25, 30, 5)))
        zones = zones_of(RINGS[5])
        told = [zones.far(row) for row in range(-9, 10)]
        self.assertEqual(told, whole(-23, -20, -18, -16, -13, -10, -8, -6, -3, 0, 2, 4, 7, 10, 12, 14, 17, 20, 22))

    def test_at_row_nought_far_is_the_place(self):
        for told in RINGS:
            self.assertEqual(zones_of(told).far(0), told[3])

    def test_far_less_far_is_the_way_gone(self):
        for told in RINGS:
            with self.subTest(told=told):
                zones = zones_of(told)
                for row in range(-60, 60):
                    place = fraction_of(zones.value(row))
                    after, rounds = gone_on(told, place)
                    way = after + rounds * fraction_of(told[0]) - place
                    self.assertEqual(fraction_of(zones.far(row + 1)) - fraction_of(zones.far(row)), way)

    def test_far_is_the_place_and_whole_rounds(self):
        for told in RINGS:
            zones = zones_of(told)
            for row in (-61, -1, 0, 1, 61):
                behind = fraction_of(zones.far(row)) - fraction_of(zones.value(row))
                self.assertEqual((behind / fraction_of(told[0])).denominator, 1)

    def test_zone_of_at_borders_and_between(self):
        zones = zones_of(RINGS[9])
        near = Fraction(1, FAR)
        for zone, (first, end) in enumerate(((0, 1), (1, 2), (2, 3), (3, 10))):
            for place in (Fraction(first), first + near, Fraction(first + end, 2), end - near):
                self.assertEqual(zones.zone_of(worth_of(place)), zone)

    def test_zone_of_a_ring_of_one_zone(self):
        zones = zones_of(RINGS[0])
        for place in ((0, 1), (5, 1), (12 * FINE - 1, FINE)):
            self.assertEqual(zones.zone_of(place), 0)

    def test_zone_of_twelve(self):
        zones = zones_of(RINGS[11])
        told = [zones.zone_of((half, 2) if half % 2 else (half // 2, 1)) for half in range(24)]
        self.assertEqual(told, [half // 2 for half in range(24)])


class OfReturns(unittest.TestCase):
    """Point 11: returns and rows_of."""

    def test_of_one_zone(self):
        for ring, step, told in (((12, 1), (5, 1), (12, 5)), ((12, 1), (12, 1), (1, 1)), ((12, 1), (24, 1), (1, 2)),
                                 ((10, 1), (35, 1), (2, 7)), ((360, 1), (1, 2), (720, 1)), ((12, 1), (8, 1), (3, 2))):
            for at in ((0, 1), (7, 2)):
                zones = Zones(ring=ring, borders=whole(0), steps=[step], at=at)
                self.assertEqual(zones.returns(), told)

    def test_of_several_zones(self):
        # Once round takes 173/30 and 8*187/225 rows.
        self.assertEqual(zones_of(RINGS[4]).returns(), (5587, 450))
        self.assertEqual(zones_of(RINGS[5]).returns(), (4, 1))
        self.assertEqual(zones_of(RINGS[8]).returns(), (11, 50))

    def test_the_least_number_of_rows(self):
        for told in RINGS:
            rows, rounds = zones_of(told).returns()
            if rows > 6000:
                continue
            with self.subTest(told=told):
                place, gone, turns = fraction_of(told[3]), 0, 0
                while gone == 0 or place != fraction_of(told[3]):
                    place, more = gone_on(told, place)
                    gone, turns = gone + 1, turns + more
                self.assertEqual((rows, rounds), (gone, turns))

    def test_what_is_told_is_a_tuple(self):
        told = zones_of(RINGS[4]).returns()
        self.assertIs(type(told), tuple)
        self.assertEqual([type(part) for part in told], [int, int])

    def test_rows_of(self):
        zones = zones_of(RINGS[0])
        self.assertEqual([zones.rows_of((place, 1)) for place in (0, 5, 7, 11)], [[0], [1], [11], [7]])
        for thing in ((1, 2), (12, 1), (17, 1), (-1, 1), (-7, 1), (1, FAR)):
            self.assertEqual(zones.rows_of(thing), [])

    def test_rows_of_all_places_of_a_return(self):
        for told in (RINGS[5], RINGS[8], RINGS[10]):
            zones = zones_of(told)
            rows, _ = zones.returns()
            for row, place in enumerate(rows_ahead(told, rows)):
                self.assertEqual(zones.rows_of(worth_of(place)), [row])

    def test_rows_of_a_return_of_just_five_thousand_rows(self):
        zones = Zones(ring=(5000, 1), borders=whole(0, 100), steps=whole(1, 1), at=(1, 1))
        self.assertEqual(zones.returns(), (5000, 1))
        self.assertEqual([zones.rows_of((place, 1)) for place in (0, 1, 4999, 5000)], [[4999], [0], [4998], []])

    def test_rows_of_a_return_of_more_rows_is_refused(self):
        for size in (5001, 5002, FAR):
            zones = Zones(ring=(size, 1), borders=whole(0, 100), steps=whole(1, 1), at=(1, 1))
            self.assertEqual(zones.returns(), (size, 1))
            with soon():
                for thing in ((1, 1), (0, 1), (-1, 1), (1, 2), (FAR, 1)):
                    with self.assertRaises(TooMany):
                        zones.rows_of(thing)
            self.assertEqual(zones.value(1), (2, 1))

    def test_the_list_is_the_askers_own(self):
        zones = zones_of(RINGS[0])
        told = zones.rows_of((5, 1))
        self.assertIs(type(told), list)
        told.append(99)
        self.assertEqual(zones.rows_of((5, 1)), [1])

    def test_asked_again_the_same_is_told(self):
        for told in RINGS:
            zones = zones_of(told)
            first = [(zones.value(row), zones.far(row), zones.returns()) for row in range(-30, 30)]
            again = [(zones.value(row), zones.far(row), zones.returns()) for row in range(-30, 30)]
            self.assertEqual(first, again)


if __name__ == "__main__":
    unittest.main()
