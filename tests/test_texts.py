"""Shelves as texts."""

import random
import unittest

from fewbounds.errors import BadShelf, BadText
from fewbounds.shelves import Bound, Shelf
from fewbounds.texts import read_shelf, shelf_text

from samples import NO_SHELVES, ODD_VALUES, Refusing, Same
from samples import backwards, example, random_shelf

KINDS = ("package", "needs", "breaks", "request", "bound")

TEXT = """package web 1
package app 3
package lib 2
needs web 1 lib app
needs app 1 lib
needs app 3 web lib
breaks web 1 app 2
breaks web 1 lib 2
breaks app 1 lib 2
breaks app 3 lib 1
request app
request web lib
bound zoo 9 app 1 2 3 web 1
bound abcdefgh 1 lib 2 app 2
"""

ROWS = TEXT.split("\n")[:-1]


def text_shelf():
    """The shelf of the text."""
    return Shelf({"web": 1, "app": 3, "lib": 2},
                 {("app", 3): ("web", "lib"), ("web", 1): ("lib", "app"), ("lib", 1): (), ("app", 1): ("lib",)},
                 [(("lib", 1), ("app", 3)), (("app", 2), ("web", 1)), (("lib", 2), ("app", 1)), (("web", 1), ("lib", 2)),
                  (("app", 3), ("lib", 1))],
                 [("app",), ("web", "lib")],
                 {"zoo": Bound("app", (1, 2, 3), "web", (1,), cost=9), "abcdefgh": Bound("lib", (2,), "app", (2,))})


def text_of(rows):
    return "".join(row + "\n" for row in rows)


def with_row(at, row):
    """The rows of the text with one replaced."""
    return ROWS[:at] + [row] + ROWS[at + 1:]


def without(kind):
    return [row for row in ROWS if not row.startswith(kind)]


def shuffled(text, kinds, source):
    """The text with its lines of some kinds in another order."""
    rows = []
    for kind in KINDS:
        some = [row for row in text.split("\n")[:-1] if row.split(" ")[0] == kind]
        rows += source.sample(some, len(some)) if kind in kinds else some
    return text_of(rows)


class WriteTest(unittest.TestCase):
    def test_example(self):
        text = "package app 2\npackage lib 1\nneeds app 1 lib\nbreaks app 2 lib 1\nrequest app\n" \
               "bound old 3 app 1 2 lib 1\n"
        self.assertEqual([shelf_text(read_shelf(text)) == text, read_shelf(text)["old"].versions], [True, (1, 2)])

    def test_each_kind_of_line(self):
        self.assertEqual(shelf_text(text_shelf()), TEXT)
        self.assertEqual(shelf_text(backwards()), text_of(
            ("package app 2", "package lib 3", "package web 1", "needs lib 1 app", "needs lib 3 web app",
             "breaks app 2 lib 3", "request lib", "request app web", "bound a 9 lib 1 3 app 1 2", "bound b 1 app 1 web 1")))

    def test_the_least_shelf(self):
        shelf = Shelf({"b": 1, "a": 1}, {("a", 1): ()}, [], [("a",)], {})
        self.assertEqual(shelf_text(shelf), "package b 1\npackage a 1\nrequest a\n")

    def test_breaking_pairs_once_in_the_order_of_the_shelf(self):
        one, two, three = (("b", 2), ("a", 1)), (("a", 2), ("b", 1)), (("a", 1), ("b", 1))
        shelf = Shelf({"b": 2, "a": 2}, {}, [one, two[::-1], three, one[::-1], two], [("a",)], {})
        self.assertEqual(shelf_text(shelf).split("\n")[2:5], ["breaks b 1 a 1", "breaks b 1 a 2", "breaks b 2 a 1"])

    def test_equal_requests_are_all_written(self):
        shelf = Shelf({"a": 1, "b": 1}, {}, [], [("b",), ("a",), ("b",)], {})
        self.assertEqual(shelf_text(shelf).split("\n")[2:], ["request b", "request a", "request b", ""])
        self.assertEqual(read_shelf(shelf_text(shelf)), shelf)

    def test_written_and_read_again(self):
        for seed in range(200):
            shelf, _ = random_shelf(seed)
            text = shelf_text(shelf)
            self.assertEqual(read_shelf(text), shelf)
            self.assertEqual(shelf_text(read_shelf(text)), text)
            kinds = [KINDS.index(row.split(" ")[0]) for row in text.split("\n")[:-1]]
            self.assertEqual(kinds, sorted(kinds))

    def test_a_shelf_stays_as_it_is(self):
        shelf = text_shelf()
        shelf_text(shelf)
        self.assertEqual(shelf, text_shelf())


class ReadTest(unittest.TestCase):
    def test_each_kind_of_line(self):
        shelf = read_shelf(TEXT)
        self.assertIs(shelf.__class__, Shelf)
        self.assertEqual(shelf, text_shelf())
        self.assertEqual((list(shelf.packages.items()), shelf.requests, shelf.names),
                         ([("web", 1), ("app", 3), ("lib", 2)], [("app",), ("web", "lib")], ["zoo", "abcdefgh"]))
        self.assertEqual((shelf["zoo"].cost, shelf["zoo"].versions, shelf["abcdefgh"].second), (9, (1, 2, 3), "app"))

    def test_the_order_of_needs_and_breaks_does_not_count(self):
        for seed in range(20):
            text = shuffled(TEXT, ("needs", "breaks"), random.Random(seed))
            self.assertEqual(read_shelf(text), text_shelf())
            self.assertEqual(shelf_text(read_shelf(text)), TEXT)

    def test_the_order_of_packages_requests_and_bounds_counts(self):
        rows = ("package b 1", "package a 2", "request a", "request b", "bound y 1 a 1 b 1", "bound x 2 a 2 b 1")
        shelf = read_shelf(text_of(rows))
        self.assertEqual((list(shelf.packages), shelf.requests, shelf.names), (["b", "a"], [("a",), ("b",)], ["y", "x"]))
        turned = read_shelf(text_of((rows[1], rows[0], rows[3], rows[2], rows[5], rows[4])))
        self.assertEqual((list(turned.packages), turned.requests, turned.names),
                         (["a", "b"], [("b",), ("a",)], ["x", "y"]))

    def test_lines_of_one_kind_in_another_order_on_many_shelves(self):
        for seed in range(100):
            shelf, _ = random_shelf(seed)
            text = shuffled(shelf_text(shelf), ("needs", "breaks", "request", "bound"), random.Random(seed))
            found = read_shelf(text)
            words = [row.split(" ") for row in text.split("\n")]
            self.assertEqual(found.names, [row[1] for row in words if row[0] == "bound"])
            self.assertEqual(found.requests, [tuple(row[1:]) for row in words if row[0] == "request"])
            bounds = {name: shelf[name] for name in found.names}
            needs = {(name, version): shelf.needs((name, version)) for name, many in shelf.packages.items()
                     for version in range(1, many + 1)}
            self.assertEqual(found, Shelf(shelf.packages, needs, shelf.breaks, found.requests, bounds))

    def test_names_in_needs_stay_in_their_order(self):
        rows = with_row(3, "needs web 1 app lib")
        self.assertEqual(read_shelf(text_of(rows)).needs(("web", 1)), ("app", "lib"))

    def test_breaking_pairs_either_way_and_more_than_once(self):
        rows = ROWS[:6] + ["breaks lib 1 app 3", "breaks app 2 web 1", "breaks web 1 lib 2", "breaks app 1 lib 2",
                           "breaks lib 2 app 1", "breaks app 1 lib 2"] + ROWS[10:]
        self.assertEqual(read_shelf(text_of(rows)), text_shelf())

    def test_without_lines_of_a_kind(self):
        self.assertEqual(read_shelf(text_of(without("needs"))).needs(("app", 1)), ())
        self.assertEqual(shelf_text(read_shelf(text_of(without("breaks")))), text_of(without("breaks")))
        self.assertEqual(len(read_shelf(text_of(without("bound")))), 0)

    def test_limits_that_are_accepted(self):
        rows = ["package a 1", "package b 3", "package c 1", "package d 1", "package abcdefgh 1"]
        rows += ["needs a 1 b c d abcdefgh", "request a b c d abcdefgh", "request a", "request a"]
        rows += [f"bound {name} 9 a 1 b 1 2 3" for name in ("a", "abcdefgh", "c", "x", "y", "z")]
        self.assertEqual(shelf_text(read_shelf(text_of(rows))), text_of(rows))

    def test_names_that_are_words_of_lines(self):
        rows = ["package package 1", "package bound 2", "needs bound 1 package", "breaks package 1 bound 1",
                "request package", "bound request 1 bound 2 package 1"]
        self.assertEqual(shelf_text(read_shelf(text_of(rows))), text_of(rows))


class WrongTextTest(Refusing, unittest.TestCase):
    def row(self, text, row):
        with self.subTest(text=text):
            self.assertEqual(self.refused(BadText, read_shelf, text).row, row)

    def not_accepted(self, kind, *lines):
        """Put each line in the place of each one of its kind."""
        read_shelf(TEXT)
        for at, old in enumerate(ROWS):
            if old.split(" ")[0] == kind:
                for line in lines:
                    self.row(text_of(with_row(at, line)), at)

    def no_shelf(self, *texts):
        for text in texts:
            self.row(text, 0)

    def test_the_example(self):
        self.row("package app 2\npackage lib 1\nrequest\n", 2)

    def test_what_is_no_string(self):
        for value in ODD_VALUES + (TEXT.encode(), [TEXT], (TEXT,), {TEXT: 1}, text_shelf(), Same()):
            if not isinstance(value, str):
                self.assertEqual(self.refused(BadText, read_shelf, value).row, 0)

    def test_without_the_last_line_feed(self):
        self.row(TEXT[:-1], len(ROWS) - 1)
        self.row(TEXT + " ", len(ROWS))
        self.row(TEXT + "bound", len(ROWS))
        self.row(TEXT + ROWS[-1], len(ROWS))
        for many in range(len(ROWS)):
            self.row(text_of(ROWS[:many]) + ROWS[many], many)
        self.row("package a 1", 0)

    def test_a_line_that_is_not_accepted_comes_first(self):
        self.row(text_of(with_row(4, "needs app 1")) + "rest", 4)
        self.row(text_of(with_row(0, "package app 3")) + "rest", len(ROWS))
        self.row(text_of(with_row(4, "needs")[:-1] + ["bound"]), 4)
        self.row(text_of(["package a 1", "package a 1", "request b", "bound x 0 a 1 b 1"]), 3)

    def test_the_empty_text(self):
        self.no_shelf("", "a", "\n", "\n" + TEXT)

    def test_empty_lines(self):
        for at in range(len(ROWS) + 1):
            self.row(text_of(ROWS[:at] + [""] + ROWS[at:]), at)

    def test_words_are_separated_by_one_space(self):
        for at, row in enumerate(ROWS):
            for line in (row.replace(" ", "  ", 1), " " + row, row + " ", row.replace(" ", "\t", 1), row + "\r",
                         row.replace(" ", "", 1), row.replace(" ", "\u00a0", 1), row[::-1].replace(" ", "  ", 1)[::-1],
                         row + "\x0b", row.replace(" ", " \x0c", 1)):
                self.row(text_of(with_row(at, line)), at)

    def test_other_line_ends_are_none(self):
        for end in ("\r\n", "\r", "\x0b", "\x0c", "\u2028", "\x85", "\n\r"):
            self.row(TEXT.replace("\n", end), 1 if end == "\n\r" else 0)

    def test_kinds(self):
        self.no_shelf("Package a 1\n", "packages a 1\n", "requests a\n", "a 1\n", "1\n")
        for at, row in enumerate(ROWS):
            self.row(text_of(with_row(at, row.replace(row.split(" ")[0], "odd", 1))), at)
            self.row(text_of(with_row(at, row.upper())), at)
            self.row(text_of(with_row(at, row.split(" ")[0])), at)

    def test_kinds_in_another_order(self):
        lines = {"package": "package web 1", "needs": "needs app 1 lib", "breaks": "breaks web 1 app 2",
                 "request": "request app", "bound": "bound zoo 9 app 1 web 1"}
        for first, line in enumerate(lines.values()):
            for second, other in enumerate(lines.values()):
                self.row(line + "\n" + other + "\n", 1 if second < first else 0)
        self.row(text_of(ROWS + ["request app"]), len(ROWS))
        self.row(text_of(ROWS[:4] + ["package dog 1"] + ROWS[4:]), 4)
        self.row(text_of(ROWS[12:] + ROWS[:12]), 2)

    def test_lines_of_packages(self):
        self.not_accepted("package", "package app", "package app 0", "package app 4", "package app 10", "package app 02",
                          "package App 1", "package ninechars 1", "package app1 1", "package 1 app", "package app 1 1",
                          "package app lib", "package app -1", "package app +1", "package app \u0661", "package app \u00b9",
                          "package \u00e4 1", "package app 1.0", "package app True", "package 2", "package app_a 1")

    def test_lines_of_needs(self):
        self.not_accepted("needs", "needs app 1", "needs app", "needs app lib", "needs app 0 lib", "needs app 4 lib",
                          "needs app 11 lib", "needs 1 app lib", "needs app 1 lib 2", "needs app 1 Lib", "needs app 1 2",
                          "needs App 1 lib", "needs app 1 ninechars", "needs ninechars 1 lib", "needs app 1 lib web4")

    def test_lines_of_breaks(self):
        self.not_accepted("breaks", "breaks app 1", "breaks app 1 lib", "breaks app 1 lib 0", "breaks app 0 lib 1",
                          "breaks app 1 lib 4", "breaks app 4 lib 1", "breaks app 1 lib 10", "breaks app 1 lib 1 1",
                          "breaks app 1 lib 1 web 1", "breaks app lib 1 1", "breaks App 1 lib 1", "breaks app 1 ninechars 1",
                          "breaks app 1 2 lib", "breaks app 01 lib 1")

    def test_lines_of_requests(self):
        self.not_accepted("request", "request App", "request app 1", "request 1", "request app lib web ninechars",
                          "request app, lib")

    def test_lines_of_bounds(self):
        self.not_accepted("bound", "bound old 3 app 1", "bound old 3 app 1 lib", "bound old 3 app lib 1",
                          "bound old 0 app 1 lib 1", "bound old 10 app 1 lib 1", "bound old app 1 lib 1",
                          "bound 3 app 1 lib 1", "bound old 3 app 1 app 2", "bound old 3 app 2 1 lib 1",
                          "bound old 3 app 1 1 lib 1", "bound old 3 app 1 2 3 3 lib 1", "bound old 3 app 1 2 3 4 lib 1",
                          "bound old 3 app 0 lib 1", "bound old 3 app 4 lib 1", "bound old 3 app 1 lib 0",
                          "bound old 3 app 1 lib 4", "bound old 3 app 1 lib 2 1", "bound old 3 app 1 lib 1 web 1",
                          "bound Old 3 app 1 lib 1", "bound ninechars 3 app 1 lib 1", "bound old 3 App 1 lib 1",
                          "bound old 3 app 1 Lib 1", "bound old 3 app 12 lib 1", "bound old 3 ninechars 1 lib 1",
                          "bound old 03 app 1 lib 1", "bound old -3 app 1 lib 1", "bound old 3 4 app 1 lib 1",
                          "bound old 3 1 app lib 1", "bound old 3 app 1 x2 lib 1", "bound old 3 app 1 lib 1 \u00b2")

    def test_each_line_by_its_index(self):
        for at in range(len(ROWS)):
            self.row(text_of(with_row(at, "odd")), at)
            self.row(text_of(with_row(at, "odd")[:at + 1]), at)

    def test_what_occurs_twice(self):
        for at, row in enumerate(ROWS):
            twice = text_of(ROWS[:at + 1] + ROWS[at:])
            if row.split(" ")[0] in ("package", "needs", "bound"):
                self.row(twice, 0)
            else:
                read_shelf(twice)
        self.no_shelf(text_of(with_row(1, "package web 3")), text_of(with_row(5, "needs app 1 web")),
                      text_of(with_row(13, "bound zoo 1 lib 2 app 2")), text_of(ROWS[:3] + ["package web 2"] + ROWS[3:]))

    def test_packages_that_form_no_shelf(self):
        many = [f"package {name} 1" for name in "abcdef"]
        self.no_shelf(text_of(["package a 1", "request a"]), text_of(many + ["request a"]), text_of(["request a"]))
        read_shelf(text_of(many[:5] + ["request a"]))

    def test_other_lines_that_form_no_shelf(self):
        for at, line in ((3, "needs odd 1 app"), (3, "needs web 2 app"), (3, "needs web 1 odd"), (3, "needs web 1 web"),
                         (3, "needs web 1 app app"), (6, "breaks web 1 web 1"), (6, "breaks app 1 app 2"),
                         (6, "breaks web 1 odd 1"), (6, "breaks web 2 app 1"), (6, "breaks lib 3 app 1"),
                         (10, "request odd"), (10, "request lib web"), (10, "request app app"),
                         (12, "bound zoo 9 app 1 odd 1"), (12, "bound zoo 9 odd 1 app 1"), (12, "bound zoo 9 app 1 web 2"),
                         (12, "bound zoo 9 lib 3 web 1")):
            self.no_shelf(text_of(with_row(at, line)))

    def test_numbers_of_requests_and_bounds(self):
        self.no_shelf(text_of(without("request")), text_of(without("request")[:-2]))
        read_shelf(text_of(ROWS[:12] + ["request lib"] + ROWS[12:]))
        self.no_shelf(text_of(ROWS[:12] + ["request lib", "request web"] + ROWS[12:]))
        more = [f"bound {name} 1 app 1 web 1" for name in "abcde"]
        read_shelf(text_of(ROWS + more[:4]))
        self.no_shelf(text_of(ROWS + more))

    def test_bad_shelves(self):
        for shelf in NO_SHELVES + (TEXT,):
            self.assertIsNone(self.refused(BadShelf, shelf_text, shelf).part)


if __name__ == "__main__":
    unittest.main()
