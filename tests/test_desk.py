"""Points 43 to 46: the desk; points 2, 3 and 4 as they hold for it."""

import unittest

from helpers import FAR, ODD_THINGS, counted, soon, tablet_of
from tabletsky.darkened import Dark
from tabletsky.desk import Desk
from tabletsky.errors import (
    Barred, Busy, Clash, NoColumn, NoDark, NoDeed, NoLine, NoMatch, NoReturn, NoRule, NoTablet, NoText, NoThing,
    Nowhere, SkyError, TooMany,
)
from tabletsky.found import tables_part
from tabletsky.lines import Line
from tabletsky.mends import least, mended
from tabletsky.pieces import joined, torn
from tabletsky.tables import Table
from tabletsky.tablets import Tablet, broken, cut_out, filled, stands, sure
from tabletsky.writing import show_table, show_tablet

# The moon comes again behind 20 rows: 0, 3, 6, 9, 8, 5, 2, 1, 4, 7, 10 and back; the day behind 50.
MOON = Line(low=(0, 1), high=(10, 1), step=(3, 1), at=(0, 1))
TABLE = Table([("moon", MOON), ("half", ("times", "moon", (1, 2))), ("day", counted(50))])
OTHER = Table([("moon", MOON), ("day", counted(50, at=7))])
SKY = "moon line 0 10 3 0 up\nhalf times moon 1/2\nday zones 50 0 1 0"
PIECE = tablet_of("moon half", [(1, 0), (1, 1)], "0? 0?;30", "?6 03;0?")
CLAY = "moon:1:0 half:1:1\n0? 0?;30\n?6 03;0?"


def desk_of():
    """A desk with two tables and two tablets."""
    desk = Desk()
    for name, thing in (("sky", TABLE), ("old", OTHER), ("clay", PIECE), ("moons", tablet_of("moon", [(1, 0)], "13"))):
        desk.put(name, thing)
    return desk


def state_of(desk):
    """All that a desk tells of itself."""
    names = desk.say("names").split(" ") if desk.say("names") else []
    return ([(name, desk.say(f"show {name}")) for name in names], desk.history(), desk.taken_back(), desk.going())


class OfLooks(unittest.TestCase):
    """Points 43 and 44: lines that only look."""

    def setUp(self):
        self.desk = desk_of()
        self.before = state_of(self.desk)

    def tearDown(self):
        self.assertEqual(state_of(self.desk), self.before)

    def test_names(self):
        self.assertEqual(self.desk.say("names"), "clay moons old sky")
        self.assertEqual(Desk().say("names"), "")

    def test_kind(self):
        self.assertEqual([self.desk.say(f"kind {name}") for name in ("sky", "old", "clay", "moons")],
                         ["table", "table", "piece", "piece"])

    def test_show(self):
        self.assertEqual(self.desk.say("show sky"), SKY)
        self.assertEqual(self.desk.say("show clay"), CLAY)

    def test_row(self):
        self.assertEqual(self.desk.say("row sky 1"), "3 3/2 1")
        self.assertEqual(self.desk.say("row sky 0"), "0 0 0")
        self.assertEqual(self.desk.say("row sky -1"), "3 3/2 49")
        self.assertEqual(self.desk.say(f"row sky {FAR}"), "0 0 0")
        self.assertEqual(self.desk.say(f"row old -{FAR}"), "0 7")

    def test_stands(self):
        self.assertEqual(self.desk.say("stands clay sky"), "1 17")
        self.assertEqual(self.desk.say("stands moons sky"), "")

    def test_least(self):
        self.assertEqual(self.desk.say("least moons sky"), "1 1 10 19")
        self.assertEqual(self.desk.say("least clay sky"), "0 1 17")

    def test_part(self):
        self.assertEqual(self.desk.say("part sky old"), "0 day")
        self.assertEqual(self.desk.say("part sky sky"), "never")

    def test_dark(self):
        self.assertEqual(self.desk.say("dark sky moon 5 8 3"), "4")
        self.assertEqual(self.desk.say("dark sky moon 11/2 13/2 3"), "18")
        self.assertEqual(self.desk.say("dark sky moon 0 10 -7"), "-7")
        self.assertEqual(self.desk.say(f"dark sky moon 6 6 {FAR}"), f"{FAR + 2}")

    def test_what_the_functions_refuse(self):
        for line, refusal in (("row sky 1 ", NoLine), ("stands clay old", NoColumn), ("least clay old", NoColumn),
                              ("dark sky new 0 1 0", NoColumn), ("dark sky half 0 1 0", NoRule),
                              ("dark sky day 0 1 0", NoRule), ("dark sky moon -1 1 0", NoRule),
                              ("dark sky moon 5 4 0", NoRule), ("dark sky moon 1/3 2/3 0", NoDark)):
            with self.subTest(line=line), self.assertRaises(refusal):
                self.desk.say(line)

    def test_which_of_these_comes_first(self):
        for line, why in (("dark sky day 99 1 0", "line"), ("dark sky moon 11 -1 0", "low"),
                          ("dark sky moon 1 11 0", "high")):
            with self.assertRaises(NoRule) as caught:
                self.desk.say(line)
            self.assertEqual(caught.exception.why, why)


class OfDeeds(unittest.TestCase):
    """Points 43 and 44: lines that make something."""

    def setUp(self):
        self.desk = desk_of()

    def made(self, line, name="new"):
        self.assertEqual(self.desk.say(line), "ok")
        self.assertEqual(self.desk.history()[-1], [line])
        return self.desk.held(name)

    def test_table_and_piece(self):
        told = self.made(f"table new\n{SKY}")
        self.assertEqual((type(told), show_table(told)), (Table, SKY))
        self.assertEqual(self.made(f"piece new\n{CLAY}"), PIECE)
        self.assertEqual(self.desk.say("kind new"), "piece")

    def test_cut(self):
        told = self.made("cut new sky 1 2 moon:1:0 half:1:1")
        self.assertEqual(told, cut_out(TABLE, names=["moon", "half"], forms=[(1, 0), (1, 1)], first=1, many=2))
        self.assertEqual(self.made(f"cut new old -{FAR} 60 day:2:3"),
                         cut_out(OTHER, names=["day"], forms=[(2, 3)], first=-FAR, many=60))

    def test_fill_sure_and_mend(self):
        self.assertEqual(self.made("fill new clay sky 1"), filled(PIECE, TABLE, row=1))
        self.assertEqual(self.made("fill new clay sky 21"), filled(PIECE, TABLE, row=1))
        self.assertEqual(self.made("sure new clay sky"), sure(PIECE, TABLE))
        self.assertEqual(self.made("mend new moons sky 19"), tablet_of("moon", [(1, 0)], "03"))
        self.assertEqual(self.made("mend new clay sky -2"), mended(PIECE, TABLE, row=-2)[0])

    def test_tear_join_and_lose(self):
        self.assertEqual(self.made("tear new clay 1 1"), torn(PIECE, first=1, many=1))
        self.assertEqual(self.made("join new clay clay -3"), joined(PIECE, PIECE, shift=-3))
        self.assertEqual(self.made("join new clay clay 2"), joined(PIECE, PIECE, shift=2))
        self.assertEqual(self.made("lose new clay 1 half 1"), broken(PIECE, places=[(1, "half", 1)]))

    def test_drop(self):
        self.assertEqual(self.desk.say("drop clay"), "ok")
        self.assertEqual(self.desk.say("names"), "moons old sky")
        self.assertEqual(self.desk.say("drop sky"), "ok")
        for name in ("clay", "sky", "none"):
            with self.assertRaises(NoThing) as caught:
                self.desk.say(f"drop {name}")
            self.assertEqual(caught.exception.name, name)

    def test_in_the_place_of_what_stood_there(self):
        self.desk.say(f"table clay\n{SKY}")
        self.assertEqual(self.desk.say("kind clay"), "table")
        self.desk.say("cut sky clay 1 1 moon:1:0")
        self.assertEqual((self.desk.say("kind sky"), self.desk.say("show sky")), ("piece", "moon:1:0\n03"))
        self.desk.say("sure sky sky clay")
        self.desk.say("join sky sky sky 1")
        self.assertEqual(self.desk.say("show sky"), "moon:1:0\n03\n03")
        self.assertEqual(self.desk.say("names"), "clay moons old sky")

    def test_what_is_made_is_not_changed_by_what_it_was_made_of(self):
        self.desk.say("tear new clay 0 1")
        self.desk.say("drop clay")
        self.assertEqual(self.desk.say("show new"), "moon:1:0 half:1:1\n0? 0?;30")

    def refused(self, refusal, line):
        before = state_of(self.desk)
        with self.assertRaises(refusal) as caught:
            self.desk.say(line)
        self.assertIs(type(caught.exception), refusal)
        self.assertEqual(state_of(self.desk), before)
        return caught.exception

    def test_what_the_functions_refuse(self):
        self.assertEqual(self.refused(NoText, "table new\nno").at, 0)
        self.assertEqual(self.refused(NoText, f"table new\n{SKY}\n").at, 3)
        self.assertEqual(self.refused(NoText, "table new\n").at, 0)
        self.assertEqual(self.refused(NoText, "piece new\nmoon:1:0").at, 1)
        self.assertEqual(self.refused(NoText, f"piece new\n{SKY}").at, 0)
        self.assertEqual(self.refused(NoTablet, "cut new sky 1 0 moon:1:0").why, "rows")
        self.assertEqual(self.refused(NoTablet, "cut new sky 1 61 Moon:1:0").why, "rows")
        self.assertEqual(self.refused(NoTablet, "cut new sky 1 1 Moon:1:0").why, "names")
        self.assertEqual(self.refused(NoTablet, "cut new sky 1 1 :1:0").why, "names")
        self.assertEqual(self.refused(NoTablet, "cut new sky 1 1" + " moon:1:0" * 2).why, "names")
        self.assertEqual(self.refused(NoColumn, "cut new sky 1 1 sun:9:9").name, "sun")
        self.assertEqual(self.refused(NoTablet, "cut new sky 1 1 moon:0:0").why, "forms")
        self.assertEqual(self.refused(NoTablet, "cut new sky 1 1 moon:1:-1").why, "forms")
        barred = self.refused(Barred, "cut new sky 0 3 moon:1:0 half:1:0")
        self.assertEqual((barred.row, barred.name), (1, "half"))
        barred = self.refused(Barred, "fill new clay sky 2")
        self.assertEqual((barred.row, barred.name), (0, "half"))
        self.refused(Nowhere, "sure new moons sky")
        self.assertEqual(self.refused(NoColumn, "mend new clay old 0").name, "half")
        self.assertEqual(self.refused(NoTablet, "tear new clay 1 2").why, "rows")
        self.assertEqual(self.refused(NoTablet, "tear new clay -1 1").why, "rows")
        self.refused(NoMatch, "join new clay moons 0")
        self.refused(TooMany, "join new clay clay 59")
        clash = self.refused(Clash, "join new clay clay 1")
        self.assertEqual((clash.row, clash.name, clash.sign), (1, "half", 3))
        for place in ("2 moon 0", "-1 moon 0", "0 sun 0", "0 Moon 0", "0  0", "0 half 2", "0 half 5"):
            self.assertEqual(self.refused(NoTablet, f"lose new clay {place}").why, "places")

    def test_a_refused_one_changes_nothing_of_what_stands_by_its_new_name(self):
        self.refused(NoText, "table sky\nno")
        self.refused(Barred, "fill clay clay sky 2")
        self.assertEqual((self.desk.say("show sky"), self.desk.say("show clay")), (SKY, CLAY))


class OfRefusedLines(unittest.TestCase):
    """Point 43: which lines are none, and which refusal is told first."""

    def setUp(self):
        self.desk = desk_of()
        self.desk.back()
        self.desk.put("moons", tablet_of("moon", [(1, 0)], "13"))
        self.before = state_of(self.desk)

    def tearDown(self):
        self.assertEqual(state_of(self.desk), self.before)

    LINES = ("names", "kind sky", "show sky", "row sky 1", "stands clay sky", "least clay sky", "part sky old",
             "dark sky moon 0 1 0", "cut new sky 1 1 moon:1:0", "cut new sky 1 1 moon:1:0 half:1:1",
             "fill new clay sky 1", "sure new clay sky", "mend new clay sky 1", "tear new clay 0 1",
             "join new clay clay 2", "lose new clay 0 moon 0", "drop sky")

    def refused_all(self, *lines):
        for line in lines:
            with self.subTest(line=line), self.assertRaises(NoLine):
                self.desk.say(line)

    def test_what_is_no_text(self):
        self.refused_all(*[thing for thing in ODD_THINGS if not isinstance(thing, str)], b"names", ["names"], TABLE)

    def test_another_first_word(self):
        self.refused_all("", " ", "Names", "NAMES", "name", "namess", "tables", "put new", "back", "forth", "history",
                         "tablet new\nmoon:1:0\n05", "wrong clay sky 1", "names,", "names;", "within", "held sky")

    def test_more_and_fewer_words(self):
        for line in self.LINES:
            words = line.split(" ")
            self.refused_all(line + " 1", line + " sky", line + " moon:1:0:0")
            if words[0] != "cut" or len(words) == 6:
                self.refused_all(*[" ".join(words[:many]) for many in range(1, len(words))])
        self.refused_all("cut new sky 1 1", "cut new sky 1", "cut")

    def test_blanks_doubled_and_at_an_end(self):
        for line in self.LINES:
            places = [place for place, sign in enumerate(line) if sign == " "]
            if line.startswith(("kind", "show", "drop")):
                places = []
            self.refused_all(" " + line, line + " ", *[line[:place] + " " + line[place:] for place in places])
        self.refused_all("kind  sky", "show  sky", "drop  sky", "kind sky ", " drop sky", "names ")
        self.refused_all("table  new\n" + SKY, "table new \n" + SKY, " table new\n" + SKY, "piece  new\n" + CLAY)

    def test_a_word_without_signs_is_a_word(self):
        for line in ("kind ", "show ", "drop "):
            with self.assertRaises(NoThing) as caught:
                self.desk.say(line)
            self.assertEqual(caught.exception.name, "")

    def test_a_line_feed_and_a_text_where_none_belong(self):
        for line in self.LINES:
            self.refused_all(line + "\n", line + "\n" + SKY, line + "\nsky", "\n" + line)
            self.refused_all(*[line.replace(" ", "\n", 1)] if " " in line else [])

    def test_none_where_they_belong(self):
        self.refused_all("table new", "piece new", "table", "piece", "table new " + SKY.split("\n")[0])
        self.refused_all("table\n" + SKY, "table\nnew\n" + SKY, "piece\n" + CLAY, "table new old\n" + SKY)

    def test_a_new_name_that_is_none(self):
        for new in ("New", "new1", "ninechars", "a_b", "", "a:b", "?", "1", "a.b", "~"):
            self.refused_all(f"table {new}\n{SKY}", f"piece {new}\n{CLAY}", f"cut {new} sky 1 1 moon:1:0",
                             f"fill {new} clay sky 1", f"sure {new} clay sky", f"mend {new} clay sky 1",
                             f"tear {new} clay 0 1", f"join {new} clay clay 2", f"lose {new} clay 0 moon 0")

    def test_numbers_that_are_not_so_written(self):
        for number in ("01", "+1", "-0", "1.0", "1/1", "1/2", "a", "", "--1", "0x1", "1,0", "?"):
            self.refused_all(f"row sky {number}", f"dark sky moon 0 1 {number}", f"cut new sky {number} 1 moon:1:0",
                             f"cut new sky 1 {number} moon:1:0", f"fill new clay sky {number}",
                             f"mend new clay sky {number}", f"tear new clay {number} 1", f"tear new clay 0 {number}",
                             f"join new clay clay {number}", f"lose new clay {number} moon 0",
                             f"lose new clay 0 moon {number}")

    def test_worths_that_are_not_so_written(self):
        for worth in ("01", "+1", "-0", "1.0", "1/1", "2/4", "1/0", "1/-2", "a", "", "00,05", "0/3"):
            self.refused_all(f"dark sky moon {worth} 1 0", f"dark sky moon 0 {worth} 0")

    def test_forms_that_are_not_so_written(self):
        for form in ("moon", "moon:1", "moon:1:0:0", "moon::0", "moon:1:", "moon:01:0", "moon:1:+0", "moon:a:0",
                     "", ":", "moon:1/2:0", "moon;1;0"):
            self.refused_all(f"cut new sky 1 1 {form}", f"cut new sky 1 1 moon:1:0 {form}",
                             f"cut new sky 1 1 {form} moon:1:0")
        self.refused_all("cut new sky 1 1 moon:1:0 2", "cut new sky 1 1 1 moon:1:0")

    def no_thing(self, line):
        with self.assertRaises(NoThing) as caught:
            self.desk.say(line)
        return caught.exception.name

    def test_names_by_which_nothing_stands(self):
        for line, name in (("kind none", "none"), ("show none", "none"), ("drop none", "none"), ("row none 1", "none"),
                           ("stands none no", "none"), ("stands clay no", "no"), ("least none no", "none"),
                           ("least clay no", "no"), ("part none no", "none"), ("part sky no", "no"),
                           ("dark none moon 0 1 0", "none"), ("cut new none 1 1 moon:1:0", "none"),
                           ("fill new none no 1", "none"), ("fill new clay no 1", "no"), ("sure new none no", "none"),
                           ("sure new clay no", "no"), ("mend new none no 1", "none"), ("mend new clay no 1", "no"),
                           ("tear new none 0 1", "none"), ("join new none no 1", "none"), ("join new clay no 1", "no"),
                           ("lose new none 0 moon 0", "none"), ("kind Sky", "Sky"), ("row 1 1", "1"),
                           ("show sky\t", "sky\t")):
            with self.subTest(line=line):
                self.assertEqual(self.no_thing(line), name)

    def test_a_table_where_a_tablet_is_wanted_and_the_other_way(self):
        for line, name in (("row clay 1", "clay"), ("stands sky clay", "sky"), ("stands clay moons", "moons"),
                           ("least sky clay", "sky"), ("least clay moons", "moons"), ("part clay sky", "clay"),
                           ("part sky clay", "clay"), ("dark clay moon 0 1 0", "clay"),
                           ("cut new clay 1 1 moon:1:0", "clay"), ("fill new sky sky 1", "sky"),
                           ("fill new clay clay 1", "clay"), ("sure new sky clay", "sky"),
                           ("sure new clay clay", "clay"), ("mend new sky none 1", "sky"),
                           ("mend new clay clay 1", "clay"), ("tear new sky 0 1", "sky"),
                           ("join new sky none 1", "sky"), ("join new clay sky 1", "sky"),
                           ("lose new sky 0 moon 0", "sky")):
            with self.subTest(line=line):
                self.assertEqual(self.no_thing(line), name)

    def test_which_refusal_comes_first(self):
        # No line at all, ahead of no thing.
        self.refused_all("row none 01", "row none", "table New\nno", "cut new none 1 1 moon",
                         "cut New none 1 1 moon:1:0", "dark none moon 1/1 0 0", "lose New none 0 moon 0",
                         "tear new none 0 1/2", "join new none no +1")
        # No thing, ahead of what the functions refuse.
        for line, name in (("cut new none 1 0 Moon:0:0", "none"), ("tear new none -1 0", "none"),
                           ("dark none moon 99 -1 0", "none"), ("join new clay none 999", "none"),
                           ("stands moons none", "none"), ("lose new sky 99 x 99", "sky")):
            self.assertEqual(self.no_thing(line), name)

    def test_held(self):
        self.assertEqual((self.desk.held("clay"), show_table(self.desk.held("sky"))), (PIECE, SKY))
        self.assertEqual((type(self.desk.held("clay")), type(self.desk.held("sky"))), (Tablet, Table))
        for name in (*ODD_THINGS, "none", "Sky", "sky ", ["sky"], ("sky",), b"sky", TABLE):
            with self.subTest(name=name), self.assertRaises(NoThing) as caught:
                self.desk.held(name)
            self.assertIs(caught.exception.name, name)

    def test_put_of_what_is_none(self):
        for name in (*ODD_THINGS, "New", "ninechars", "a b", "", ["new"], b"new"):
            for thing in (TABLE, PIECE):
                with self.subTest(name=name), self.assertRaises(NoLine):
                    self.desk.put(name, thing)
        for thing in (*ODD_THINGS, SKY, CLAY, MOON, Desk(), Table, [("moon", MOON)]):
            with self.subTest(thing=thing), self.assertRaises(NoLine):
                self.desk.put("new", thing)


class OfPut(unittest.TestCase):
    """Point 43: put is told as the line with its text."""

    def test_tables_and_tablets(self):
        desk = Desk()
        self.assertEqual(desk.put("sky", TABLE), "ok")
        self.assertEqual(desk.put("clay", PIECE), "ok")
        self.assertEqual(desk.history(), [[f"table sky\n{SKY}"], [f"piece clay\n{CLAY}"]])
        self.assertEqual((show_table(desk.held("sky")), desk.held("clay")), (SKY, PIECE))
        self.assertEqual((desk.say("show sky"), desk.say("show clay")), (SKY, CLAY))

    def test_the_same_is_told_by_the_lines(self):
        one, other = Desk(), desk_of()
        for lines in other.history():
            for line in lines:
                one.say(line)
        self.assertEqual(state_of(one), state_of(other))

    def test_how_it_is_handed_in(self):
        desk = Desk()
        self.assertEqual(desk.put(thing=PIECE, name="clay"), "ok")
        self.assertEqual(desk.held(name="clay"), PIECE)
        self.assertEqual(desk.say(line="kind clay"), "piece")
        with self.assertRaises(TypeError):
            desk.back(1)
        with self.assertRaises(TypeError):
            desk.forth(1)


def pieces_of(*names):
    """A desk on which some tablets were put, a step each."""
    desk = Desk()
    for number, name in enumerate(names):
        desk.put(name, tablet_of("moon", [(1, 0)], f"{number:02}"))
    return desk


def lines_of(*names, begin=0):
    return [f"piece {name}\nmoon:1:0\n{number:02}" for number, name in enumerate(names, begin)]


class OfSteps(unittest.TestCase):
    """Point 45."""

    def test_back_and_forth(self):
        desk = pieces_of("a", "b", "c")
        self.assertIsNone(desk.back())
        self.assertEqual((desk.say("names"), len(desk.history()), len(desk.taken_back())), ("a b", 2, 1))
        self.assertIsNone(desk.forth())
        self.assertEqual((desk.say("names"), len(desk.history()), len(desk.taken_back())), ("a b c", 3, 0))

    def test_several_at_once(self):
        desk = pieces_of("a", "b", "c", "d")
        desk.back(many=3)
        self.assertEqual(desk.say("names"), "a")
        desk.forth(many=2)
        self.assertEqual(desk.say("names"), "a b c")
        desk.back(many=3)
        self.assertEqual(desk.say("names"), "")
        desk.forth(many=4)
        self.assertEqual(desk.say("names"), "a b c d")

    def test_all_ways_back_and_forth(self):
        desk = desk_of()
        for line in ("tear clay clay 0 1", "drop moons", "lose clay clay 0 moon 0", f"table clay\n{SKY}",
                     "cut sky clay 0 2 day:1:0", "join sky sky sky 2", "drop clay"):
            desk.say(line)
        states = [state_of(desk)[0]]
        for _ in range(len(desk.history())):
            desk.back()
            states.append(state_of(desk)[0])
        self.assertEqual(states[-1], [])
        for before in states[-2::-1]:
            desk.forth()
            self.assertEqual(state_of(desk)[0], before)
        for many in range(1, len(states)):
            desk.back(many=many)
            self.assertEqual(state_of(desk)[0], states[many])
            desk.forth(many=many)
            self.assertEqual(state_of(desk)[0], states[0])

    def test_what_stood_there_stands_there_again(self):
        desk = desk_of()
        desk.say(f"piece sky\n{CLAY}")
        desk.say("drop sky")
        desk.back()
        self.assertEqual(desk.say("kind sky"), "piece")
        desk.back()
        self.assertEqual(desk.say("show sky"), SKY)
        desk.forth(many=2)
        self.assertRaises(NoThing, desk.say, "show sky")

    def test_no_such_number_of_steps(self):
        desk = pieces_of("a", "b", "c")
        desk.back()
        before = state_of(desk)
        for many in (None, True, False, 0, -1, "1", [1], (1,), (1, 1), {}, b"1", object(), 4, FAR, -FAR):
            for deed in (desk.back, desk.forth):
                with self.subTest(many=many), self.assertRaises(NoDeed):
                    deed(many=many)
                self.assertEqual(state_of(desk), before)
        self.assertRaises(NoDeed, desk.back, many=3)
        self.assertRaises(NoDeed, desk.forth, many=2)
        desk.back(many=2)
        self.assertRaises(NoDeed, desk.back)
        desk.forth(many=3)
        self.assertRaises(NoDeed, desk.forth)
        for deed in (Desk().back, Desk().forth):
            self.assertRaises(NoDeed, deed)

    def test_history_and_taken_back(self):
        desk = pieces_of("a", "b", "c")
        a, b, c = lines_of("a", "b", "c")
        self.assertEqual((desk.history(), desk.taken_back()), ([[a], [b], [c]], []))
        desk.back()
        self.assertEqual((desk.history(), desk.taken_back()), ([[a], [b]], [[c]]))
        desk.back()
        self.assertEqual((desk.history(), desk.taken_back()), ([[a]], [[b], [c]]))
        desk.forth()
        self.assertEqual((desk.history(), desk.taken_back()), ([[a], [b]], [[c]]))
        self.assertEqual((Desk().history(), Desk().taken_back()), ([], []))

    def test_what_was_told_is_the_asker_s_own(self):
        desk = pieces_of("a", "b")
        desk.back()
        for told in (desk.history(), desk.taken_back()):
            told[0].append("new")
            told.append(["new"])
        for told in (desk.history(), desk.taken_back()):
            told[0].clear()
            told.clear()
        self.assertEqual((desk.history(), desk.taken_back()), ([lines_of("a")], [lines_of("b", begin=1)]))

    def test_a_new_step_does_away_with_what_was_taken_back(self):
        desk = pieces_of("a", "b", "c")
        desk.back(many=2)
        desk.say("drop a")
        self.assertEqual((desk.taken_back(), desk.history()), ([], [lines_of("a"), ["drop a"]]))
        self.assertRaises(NoDeed, desk.forth)
        desk.back()
        desk.put("a", PIECE)
        self.assertEqual(desk.taken_back(), [])

    def test_a_refused_one_and_a_look_do_not(self):
        desk = pieces_of("a", "b")
        desk.back()
        for line in ("drop b", "nothing", "table new\nno", "tear new a 5 1"):
            self.assertRaises(SkyError, desk.say, line)
        self.assertRaises(NoLine, desk.put, "new", None)
        desk.say("names")
        desk.say("show a")
        desk.history()
        self.assertEqual(desk.taken_back(), [lines_of("b", begin=1)])
        desk.forth()
        self.assertEqual(desk.say("names"), "a b")

    def test_many_steps(self):
        desk = Desk()
        with soon():
            for number in range(2000):
                desk.say(f"piece a\nmoon:1:0\n{number % 60:02}")
            desk.back(many=1999)
            self.assertEqual(desk.say("show a"), "moon:1:0\n00")
            desk.forth(many=1000)
            self.assertEqual(desk.say("show a"), "moon:1:0\n40")


class Stopped(Exception):
    """No refusal of the program."""


class OfWorks(unittest.TestCase):
    """Point 46."""

    def setUp(self):
        self.desk = pieces_of("a", "b", "c")
        self.desk.back()
        self.before = state_of(self.desk)

    def test_it_tells_what_its_work_tells(self):
        for told in (5, None, "told", [1], True):
            self.assertIs(self.desk.within(lambda desk: told), told)
        self.assertEqual(state_of(self.desk), self.before)

    def test_the_work_is_called_once_with_the_desk(self):
        called = []
        self.desk.within(called.append)
        self.assertEqual(len(called), 1)
        self.assertIs(called[0], self.desk)
        self.assertIsNone(self.desk.within(work=lambda desk: None))

    def test_all_its_deeds_are_one_step(self):
        def work(desk):
            desk.say("drop a")
            desk.put("d", PIECE)
            return desk.say("tear e d 0 1")

        self.assertEqual(self.desk.within(work), "ok")
        step = ["drop a", f"piece d\n{CLAY}", "tear e d 0 1"]
        self.assertEqual((self.desk.history(), self.desk.taken_back()), (self.before[1] + [step], []))
        self.assertEqual(self.desk.say("names"), "b d e")
        self.desk.back()
        self.assertEqual((self.desk.say("names"), self.desk.taken_back()), ("a b", [step]))
        self.desk.forth()
        self.assertEqual(self.desk.say("names"), "b d e")

    def test_a_work_with_no_deeds_is_no_step(self):
        self.desk.within(lambda desk: desk.say("show a"))
        self.assertEqual(state_of(self.desk), self.before)
        self.desk.within(lambda desk: desk.within(lambda inner: inner.say("names")))
        self.assertEqual(state_of(self.desk), self.before)

    def test_deeds_that_come_to_nothing_are_a_step(self):
        def work(desk):
            desk.put("d", PIECE)
            desk.say("drop d")

        self.desk.within(work)
        self.assertEqual((len(self.desk.history()), self.desk.taken_back()), (3, []))

    def test_whatever_is_raised_goes_on_and_all_is_as_ahead(self):
        for raised in (NoDark, Stopped, ValueError, KeyError, KeyboardInterrupt, SystemExit, StopIteration,
                       GeneratorExit, BaseException):
            def work(desk, raised=raised):
                desk.say("drop a")
                desk.put("d", PIECE)
                raise raised

            with self.subTest(raised=raised), self.assertRaises(raised):
                self.desk.within(work)
            self.assertEqual(state_of(self.desk), self.before)
        self.desk.forth()
        self.assertEqual(self.desk.say("names"), "a b c")
        self.desk.say("drop a")
        self.assertEqual(self.desk.history()[-1], ["drop a"])

    def test_a_refusal_that_is_not_caught(self):
        def work(desk):
            desk.say("drop a")
            desk.say("drop a")

        self.assertRaises(NoThing, self.desk.within, work)
        self.assertEqual(state_of(self.desk), self.before)

    def test_a_refusal_that_is_caught(self):
        def work(desk):
            desk.say("drop a")
            self.assertRaises(NoThing, desk.say, "drop a")
            desk.say("drop b")

        self.desk.within(work)
        self.assertEqual(self.desk.history()[-1], ["drop a", "drop b"])

    def test_what_is_no_work(self):
        for work in (None, 5, "names"):
            self.assertRaises(TypeError, self.desk.within, work)
            self.assertEqual(state_of(self.desk), self.before)

    def test_works_within_works(self):
        def inner(desk):
            desk.say("drop b")
            return desk.going()

        def outer(desk):
            desk.say("drop a")
            told = desk.within(inner)
            desk.put("d", PIECE)
            return (told, desk.within(lambda some: some.say("tear e d 1 1")), desk.going())

        self.assertEqual(self.desk.within(outer), (2, "ok", 1))
        step = ["drop a", "drop b", f"piece d\n{CLAY}", "tear e d 1 1"]
        self.assertEqual(self.desk.history(), self.before[1] + [step])
        self.assertEqual(self.desk.going(), 0)
        self.desk.back()
        self.assertEqual(self.desk.say("names"), "a b")

    def test_an_inner_work_that_raises_and_is_caught(self):
        def inner(desk):
            desk.say("drop b")
            desk.put("e", PIECE)
            self.assertEqual(desk.say("names"), "d e")
            raise Stopped

        def outer(desk):
            desk.say("drop a")
            desk.put("d", PIECE)
            self.assertRaises(Stopped, desk.within, inner)
            self.assertEqual((desk.say("names"), desk.going()), ("b d", 1))
            desk.say("tear e d 0 1")

        self.desk.within(outer)
        self.assertEqual(self.desk.say("names"), "b d e")
        self.assertEqual(self.desk.history()[-1], ["drop a", f"piece d\n{CLAY}", "tear e d 0 1"])
        self.assertEqual(len(self.desk.history()), 3)

    def test_only_inner_deeds_all_of_which_are_gone(self):
        def inner(desk):
            desk.say("drop a")
            raise Stopped

        def outer(desk):
            self.assertRaises(Stopped, desk.within, inner)

        self.desk.within(outer)
        self.assertEqual(state_of(self.desk), self.before)

    def test_an_outer_work_that_raises_behind_an_inner_one(self):
        def outer(desk):
            desk.within(lambda some: some.say("drop a"))
            raise Stopped

        self.assertRaises(Stopped, self.desk.within, outer)
        self.assertEqual(state_of(self.desk), self.before)

        def outermost(desk):
            desk.say("drop b")
            self.assertRaises(Stopped, desk.within, outer)
            self.assertEqual(desk.say("names"), "a")

        self.desk.within(outermost)
        self.assertEqual(self.desk.history()[-1], ["drop b"])

    def nested(self, many, last):
        """So many works within one another, the innermost one being the last one."""
        def work(desk):
            self.going.append(desk.going())
            desk.say(f"piece {'abcdefghijk'[len(self.going)]}\n{CLAY}")
            return last(desk) if many == 1 else desk.within(self.nested(many - 1, last))

        return work

    def test_eight_works_and_a_ninth(self):
        self.going = []
        called = []
        self.assertEqual(self.desk.within(self.nested(8, lambda desk: desk.going())), 8)
        self.assertEqual(self.going, list(range(1, 9)))
        self.assertEqual((len(self.desk.history()), len(self.desk.history()[-1])), (3, 8))
        self.desk.back()
        self.going.clear()
        before = state_of(self.desk)
        with self.assertRaises(TooMany):
            self.desk.within(self.nested(8, lambda desk: desk.within(called.append)))
        self.assertEqual((called, state_of(self.desk)), ([], before))

    def test_a_ninth_one_that_is_caught(self):
        self.going = []

        def last(desk):
            self.assertRaises(TooMany, desk.within, self.fail)
            return desk.going()

        self.assertEqual(self.desk.within(self.nested(8, last)), 8)
        self.assertEqual((self.desk.going(), len(self.desk.history()[-1])), (0, 8))

    def test_busy_ahead_of_no_deed(self):
        def work(desk):
            for deed in (desk.back, desk.forth):
                for many in (1, 0, None, FAR):
                    self.assertRaises(Busy, deed, many=many)
            desk.say("drop a")
            self.assertRaises(Busy, desk.back)
            desk.within(lambda some: self.assertRaises(Busy, some.back))

        self.desk.within(work)
        self.assertEqual(self.desk.history()[-1], ["drop a"])
        self.assertRaises(NoDeed, self.desk.forth)
        self.desk.back()
        self.assertRaises(Busy, self.desk.within, lambda desk: desk.back())
        self.assertEqual(self.desk.say("names"), "a b")

    def test_history_while_one_is_going_on(self):
        def work(desk):
            desk.say("drop a")
            self.assertEqual((desk.history(), desk.taken_back()), self.before[1:3])
            desk.within(lambda some: some.say("drop b"))
            self.assertEqual((desk.history(), desk.taken_back()), self.before[1:3])
            self.assertEqual(desk.say("names"), "")

        self.desk.within(work)
        self.assertEqual((self.desk.history()[-1], self.desk.taken_back()), (["drop a", "drop b"], []))

    def test_looks_and_things_within_a_work(self):
        def work(desk):
            desk.put("d", PIECE)
            return (desk.say("kind d"), desk.held("d"), desk.say("names"))

        self.assertEqual(self.desk.within(work), ("piece", PIECE, "a b d"))

    def test_going(self):
        self.assertEqual(self.desk.going(), 0)
        self.assertEqual(self.desk.within(lambda desk: desk.going()), 1)
        self.assertRaises(Stopped, self.desk.within, self.stop)
        self.assertEqual(self.desk.going(), 0)

    def stop(self, desk):
        raise Stopped

    def test_two_desks_have_nothing_in_common(self):
        other = pieces_of("x")

        def work(desk):
            other.say("drop x")
            other.back()
            desk.say("drop a")
            raise Stopped

        self.assertRaises(Stopped, self.desk.within, work)
        self.assertEqual((state_of(self.desk), other.taken_back()), (self.before, [["drop x"]]))

    def test_many_deeds_in_one_work(self):
        def work(desk):
            for number in range(3000):
                desk.say(f"piece a\nmoon:1:0\n{number % 60:02}")

        with soon():
            self.desk.within(lambda desk: desk.within(work))
        self.assertEqual((len(self.desk.history()), len(self.desk.history()[-1])), (3, 3000))


class OfPointFour(unittest.TestCase):
    """Points 4 and 44: what the desk tells is what the functions tell."""

    def test_looks_tell_the_same(self):
        desk = desk_of()
        tablet = desk.held("clay")
        self.assertEqual(desk.say("stands clay sky").split(" "), [f"{row}" for row in stands(tablet, TABLE)])
        many, rows = least(desk.held("moons"), TABLE)
        self.assertEqual(desk.say("least moons sky"), " ".join(f"{number}" for number in [many, *rows]))
        row, name = tables_part(TABLE, OTHER)
        self.assertEqual(desk.say("part sky old"), f"{row} {name}")
        for row in (0, 7, -FAR, FAR):
            dark = Dark(MOON, low=(5, 1), high=(8, 1))
            self.assertEqual(desk.say(f"dark sky moon 5 8 {row}"), f"{dark.next_dark(row)}")

    def test_a_return_that_is_none(self):
        desk = desk_of()
        desk.say("table way\na zones 50 0 1 0\nway along a 0")
        self.assertRaises(NoReturn, desk.say, "part way way")
        desk.say("cut new way 2 1 way:1:0")
        self.assertEqual(desk.say("show new"), "way:1:0\n01")
        self.assertRaises(NoReturn, desk.say, "stands new way")
        desk.say("table long\na zones 5001 0 1 0\nway along a 0")
        self.assertRaises(TooMany, desk.say, "row long 5001")
        self.assertRaises(TooMany, desk.say, "part long long")


if __name__ == "__main__":
    unittest.main()
