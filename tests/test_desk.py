"""Promises [21] and [22]: the lines that a desk answers, and those that it refuses."""

import copy
import unittest

from flatmeet.boxes import box
from flatmeet.desk import Desk
from flatmeet.dropping import apart
from flatmeet.errors import BadCount, BadName, FlatError, NoLine, NoName, NoRow
from flatmeet.flats import flat_of, parts
from flatmeet.meeting import join, meet, square
from flatmeet.texts import rows_text, sum_text
from given import WAYS, Numbers

THIRTY = "1" + "2" * 29


class Answers(unittest.TestCase):

    def told(self, desk, talk):
        for line, wanted in talk:
            told = desk.tell(line)
            self.assertIs(type(told), str)
            self.assertEqual(told, wanted, line)

    def test_a_talk(self):
        self.told(Desk(), [
            ("flat a = (2,4,6) (1,1,1)", "flat a = (1,0,-1) (0,1,2)"),
            ("flat b = (1,0,0) (0,1,0)", "flat b = (1,0,0) (0,1,0)"),
            ("meet c = a b", "flat c = (2,1,0)"),
            ("join d = a b", "flat d = (1,0,0) (0,1,0) (0,0,1)"),
            ("square e = a", "flat e = (1,-2,1)"),
            ("box a", "box e01 + 2e02 + e12"),
            ("box e", "box e0 - 2e1 + e2"),
            ("in a (3,3,3)", "in 3 3"),
            ("in a (0,-1,-2)", "in 0 -1"),
            ("in a (0,0,1)", "out"),
            ("in a (0,0,0)", "in 0 0"),
            ("apart b (4,-5,6)", "apart 36 1"),
            ("apart c (1,0,0)", "apart 1 5"),
            ("apart d (1,0,7)", "apart 0 1"),
            ("same a b", "other"),
            ("same a a", "same"),
            ("flat f = (0,1,2) (1,0,-1) (1,1,1)", "flat f = (1,0,-1) (0,1,2)"),
            ("same a f", "same"),
        ])

    def test_nothing(self):
        self.told(Desk(), [
            ("flat a = nothing", "flat a = nothing"),
            ("flat b = (0,0,0) (0,0,0)", "flat b = nothing"),
            ("same a b", "same"),
            ("box a", "box 1e"),
            ("in a (0,0,0)", "in"),
            ("in a (0,1,0)", "out"),
            ("apart a (1,2,2)", "apart 9 1"),
            ("square c = a", "flat c = (1,0,0) (0,1,0) (0,0,1)"),
            ("box c", "box e012"),
            ("join d = a c", "flat d = (1,0,0) (0,1,0) (0,0,1)"),
            ("meet e = a c", "flat e = nothing"),
        ])

    def test_spaces(self):
        desk = Desk()
        for many in (1, 2, 3, 4, 5, 5, 1):
            row = "(" + ",".join(["2"] * many) + ")"
            ones = "(" + ",".join(["1"] * many) + ")"
            self.told(desk, [(f"space {many}", f"space {many}"), (f"flat a = {row}", f"flat a = {ones}"),
                             (f"in a {row}", "in 2")])
        for many in WAYS:
            self.told(desk, [("flat a = nothing", "flat a = nothing"), (f"space {many}", f"space {many}")])
            for line in ("box a", "same a a", "square b = a"):
                with self.assertRaises(NoName):
                    desk.tell(line)

    def test_the_same_space_forgets_names_too(self):
        desk = Desk()
        self.told(desk, [("flat a = nothing", "flat a = nothing"), ("space 3", "space 3")])
        with self.assertRaises(NoName):
            desk.tell("box a")

    def test_a_name_given_anew(self):
        self.told(Desk(), [
            ("flat a = (1,0,0)", "flat a = (1,0,0)"),
            ("flat b = (0,1,0)", "flat b = (0,1,0)"),
            ("flat a = (0,0,1)", "flat a = (0,0,1)"),
            ("box a", "box e2"),
            ("join a = a b", "flat a = (0,1,0) (0,0,1)"),
            ("box a", "box e12"),
            ("box b", "box e1"),
            ("square a = a", "flat a = (1,0,0)"),
            ("meet a = b a", "flat a = nothing"),
            ("box a", "box 1e"),
        ])

    def test_names_that_are_words_of_lines(self):
        words = ["space", "flat", "join", "meet", "square", "box", "in", "apart", "same", "out", "other"]
        desk = Desk()
        for word in words:
            self.told(desk, [(f"flat {word} = (1,2,3)", f"flat {word} = (1,2,3)"),
                             (f"box {word}", "box e0 + 2e1 + 3e2"),
                             (f"in {word} (2,4,6)", "in 2"), (f"apart {word} (1,2,3)", "apart 0 1"),
                             (f"same {word} flat" if word != "space" else "same space space", "same"),
                             (f"join {word} = {word} {word}", f"flat {word} = (1,2,3)"),
                             (f"meet {word} = {word} {word}", f"flat {word} = (1,2,3)")])
            self.told(desk, [(f"square {word} = {word}", f"flat {word} = (1,1,-1) (0,3,-2)"),
                             (f"flat {word} = (1,2,3)", f"flat {word} = (1,2,3)")])

    def test_names_of_one_and_of_twelve_letters(self):
        for name in ("a", "z", "abcdefghijkl", "nothin", "nothings", "zzzzzzzzzzzz", "e"):
            self.told(Desk(), [(f"flat {name} = nothing", f"flat {name} = nothing"), (f"box {name}", "box 1e")])

    def test_twelve_rows(self):
        rows = " ".join(f"({number},{number},{number})" for number in range(-6, 6))
        self.told(Desk(), [("flat a = " + rows, "flat a = (1,1,1)"), ("in a (-5,-5,-5)", "in -5")])

    def test_thirty_figures(self):
        self.told(Desk(), [
            ("space 1", "space 1"),
            (f"flat a = (-{THIRTY})", "flat a = (1)"),
            (f"in a (-{THIRTY})", f"in -{THIRTY}"),
            ("space 2", "space 2"),
            (f"flat a = ({THIRTY},1)", f"flat a = ({THIRTY},1)"),
            ("box a", f"box {THIRTY}e0 + e1"),
            (f"flat b = (1,-{THIRTY})", f"flat b = (1,-{THIRTY})"),
            ("square c = b", f"flat c = ({THIRTY},1)"),
            ("same a c", "same"),
            (f"in b (0,{THIRTY})", "out"),
        ])

    def test_against_the_functions(self):
        numbers = Numbers(21)
        for many in WAYS:
            desk = Desk()
            desk.tell(f"space {many}")
            for bound in (1, 9, 10 ** 29):
                rows, more = numbers.rows(many, many - 1, bound), numbers.rows(many, 2, bound)
                one, other = flat_of(many, rows), flat_of(many, more)
                row = numbers.row(many, bound)
                self.told(desk, [
                    ("flat one = " + rows_text(rows), "flat one = " + rows_text(one.rows)),
                    ("flat other = " + rows_text(more), "flat other = " + rows_text(other.rows)),
                    ("join a = one other", "flat a = " + rows_text(join(one, other).rows)),
                    ("meet b = one other", "flat b = " + rows_text(meet(one, other).rows)),
                    ("square c = other", "flat c = " + rows_text(square(other).rows)),
                    ("box one", "box " + sum_text(box(one))),
                    ("apart one " + rows_text([row]), "apart %d %d" % apart(one, row)),
                    ("same one other", "same" if one.rows == other.rows else "other"),
                ])
                for given in [row] + rows:
                    found = parts(one, given)
                    self.told(desk, [("in one " + rows_text([given]),
                                      "out" if found is None else " ".join(["in"] + [str(part) for part in found]))])


NO_LINES = [
    "", " ", "  ", "a", "spaces 3", "Space 3", "SPACE 3", "out a", "other", "nothing", "=", "flat", "flat a",
    "flat a =", "flat a (1,0,0)", "flat = a (1,0,0)", "flat a (1,0,0) =", "flat a == (1,0,0)", "flat a=(1,0,0)",
    "flat a =(1,0,0)", "flat a = ", " flat a = nothing", "flat a = nothing ", "flat a  = nothing",
    "flat  a = nothing", "flat a =  nothing", "flat  = nothing", "flat a = (1,0,0)  (0,1,0)",
    "flat a = (1,0,0) (0,1,0) ", "flat = = ", "space", "space ", " space 3", "space  3", "space 3 ",
    "space 3 3", "space = 3", "3 space", "join a = a", "join a = a a a", "join a a a", "join a = ",
    "join a a = a", "join = a a a", "join a  = a a", "join a = a  a", "join a = a a ", "join a = a ", "join",
    "meet a = a", "meet a = a a a", "meet a a a =", "meet a a a a", "meet", "meet a = a ", "square a =",
    "square a = a a", "square a a", "square a a =", "square = a a", "square a = ", "square", "square a a a",
    "box", "box ", "box a a", "box = a", " box a", "box a ", "box  a", "in", "in a", "in a ", "in  (0,0,0)",
    "in a (0,0,0) (0,0,0)", "in a (0, 0,0)", "in a = (0,0,0)", "apart", "apart a", "apart a ",
    "apart a (0,0,0) a", "apart  (0,0,0)", "apart a (0,0,0) ", "same", "same a", "same a ", "same  a",
    "same a a a", "same a = a", " same a a", "same a a ", "same  a a", "join(a)", "flata = nothing",
    "flat a = " + " ".join(["(1,0,0)"] * 13), "flat a = " + " ".join(["nothing"] * 13),
    "flat A = " + "x " * 12 + "x", "in a out (0,0,0)", "space 0 0", "flat nothing =", "box nothing nothing",
    "flat A b nothing",
]
BAD_NAMES = [
    "A", "aB", "a1", "1", "a_b", "_", "a-b", "-", "=", "(", "(1,0,0)", "abcdefghijklm", "z" * 40, "nothing",
    "a.", "~", "!", "a=", "{", "`", "@", "[",
]
NO_COUNTS = [
    "0", "6", "03", "a", "-1", "+3", "3.0", "10", "33", "three", "=", "(3)", "1_", "01", "00", "nothing", "3,",
    "9" * 60,
]
NO_ROWS = [
    "(1,0)", "(1,0,0,0)", "()", "(", ")", "1,0,0", "(1,0,0", "1,0,0)", "[1,0,0]", "{1,0,0}", "((1,0,0))",
    "(1,0,0)(0,1,0)", "(1,,0)", "(,1,0)", "(1,0,)", "(,1,0,0)", "(1,0,0,)", "(,,)", "(-0,0,0)", "(00,0,0)",
    "(0,0,00)", "(+1,0,0)", "(1_0,0,0)", "(01,0,0)", "(-01,0,0)", "(--1,0,0)", "(-,0,0)", "(1-,0,0)",
    "(1.0,0,0)", "(1e3,0,0)", "(0x1,0,0)", "(a,0,0)", "(1;0;0)", "(1,0,0).", ".(1,0,0)", "nothing", "a", "=",
    "0", "(" + "1" * 31 + ",0,0)", "(0,0,-" + "1" * 31 + ")", "(0,0," + "9" * 100 + ")",
    "(0" + "1" * 29 + ",0,0)", "(1,0,0))", "((1,0,0)", "(1,(0),0)", "(0-,0,0)", "(+0,0,0)", "(1\t,0,0)",
]


class Refused(unittest.TestCase):

    def desk(self):
        desk = Desk()
        for line in ("flat a = (1,0,0) (0,1,0)", "flat b = (0,2,3)", "flat n = nothing"):
            desk.tell(line)
        return desk

    def refuses(self, line, kind):
        desk = self.desk()
        before = self.state(desk)
        with self.assertRaises(FlatError, msg=repr(line)) as caught:
            desk.tell(line)
        self.assertIs(type(caught.exception), kind, repr(line))
        self.assertEqual(vars(caught.exception), {})
        self.assertEqual(self.state(desk), before, repr(line))

    def state(self, desk):
        """What a copy of the desk answers, its space and its names among it."""
        desk = copy.deepcopy(desk)
        told = [desk.tell(line) for line in
                ("box a", "box b", "box n", "same a b", "in a (1,2,0)", "apart b (1,1,1)", "flat z = (4,5,6)")]
        for name in ("c", "x", "nothing", "in"):
            with self.assertRaises(NoName):
                desk.tell("box " + name)
        return told

    def test_no_line(self):
        for line in NO_LINES:
            self.refuses(line, NoLine)

    def test_first_words(self):
        for word in ("", "flats", "fla", "Flat", "nothing", "out", "other", "tell", "box,", "=", "0", "(1,0,0)"):
            for rest in ("", " a", " a a", " a = a", " a = a a", " a = (1,0,0)", " 3"):
                self.refuses(word + rest, NoLine)

    def test_bad_name(self):
        for name in BAD_NAMES:
            for rest in ("(1,0,0)", "nothing"):
                self.refuses(f"flat {name} = {rest}", BadName)
            self.refuses(f"join {name} = a b", BadName)
            self.refuses(f"meet {name} = a b", BadName)
            self.refuses(f"square {name} = a", BadName)

    def test_bad_count(self):
        for word in NO_COUNTS:
            self.refuses(f"space {word}", BadCount)

    def test_no_row(self):
        for row in NO_ROWS:
            for line in ([f"flat c = {row}"] if row != "nothing" else []) + [
                    f"flat c = (1,0,0) {row}", f"flat c = {row} (1,0,0)", f"flat c = nothing {row}",
                    f"flat c = {row} nothing", f"in a {row}", f"apart a {row}", f"in n {row}"]:
                self.refuses(line, NoRow)
        self.refuses("flat c = " + " ".join(["(1,0,0)"] * 11) + " nothing", NoRow)
        self.refuses("flat c = " + " ".join(["(1,0,0)"] * 11) + " (1,0)", NoRow)

    def test_rows_of_each_space(self):
        for many in WAYS:
            for length in range(1, 7):
                desk = Desk()
                desk.tell(f"space {many}")
                desk.tell("flat a = nothing")
                row = "(" + ",".join(["0"] * length) + ")"
                if length == many:
                    told = [desk.tell("flat b = " + row), desk.tell("in a " + row)]
                    self.assertEqual(told, ["flat b = nothing", "in"])
                else:
                    for line in ("flat b = " + row, "in a " + row, "apart a " + row):
                        with self.assertRaises(NoRow):
                            desk.tell(line)

    def test_no_name(self):
        for word in ("c", "nothing", "A", "=", "(1,0,0)", "abcdefghijklm", "aa", "in", "1"):
            for line in (f"join c = {word} a", f"join c = a {word}", f"join c = {word} {word}", f"meet c = {word} a",
                         f"meet c = a {word}", f"square c = {word}", f"box {word}", f"in {word} (0,0,0)",
                         f"apart {word} (0,0,0)", f"same {word} a", f"same a {word}", f"same {word} {word}",
                         f"join a = {word} b", f"meet b = a {word}", f"square a = {word}"):
                self.refuses(line, NoName)

    def test_the_first_of_two(self):
        for line, kind in [
            ("flat A (1,0)", NoLine), ("flat A = ", NoLine), ("join A = c", NoLine), ("space 9 9", NoLine),
            ("in c (1,0) ", NoLine), ("box c c", NoLine), ("same c", NoLine),
            ("flat A = (1,0)", BadName), ("flat nothing = x", BadName), ("flat A = nothing (1,0,0)", BadName),
            ("join A = c d", BadName), ("meet nothing = c d", BadName), ("square a1 = c", BadName),
            ("in c (1,0)", NoRow), ("apart c x", NoRow), ("in nothing (1,0)", NoRow), ("in A nothing", NoRow),
        ]:
            self.refuses(line, kind)

    def test_a_refused_space_keeps_names_and_ways(self):
        desk = self.desk()
        for word in NO_COUNTS:
            with self.assertRaises(BadCount):
                desk.tell("space " + word)
        self.assertEqual(desk.tell("same a a"), "same")
        self.assertEqual(desk.tell("flat c = (0,0,2)"), "flat c = (0,0,1)")

    def test_two_desks_know_nothing_of_one_another(self):
        one, other = Desk(), Desk()
        one.tell("flat a = (1,0,0)")
        with self.assertRaises(NoName):
            other.tell("box a")
        other.tell("space 2")
        other.tell("flat a = (0,5)")
        self.assertEqual([one.tell("box a"), other.tell("box a")], ["box e0", "box e1"])
        one.tell("space 4")
        self.assertEqual([one.tell("flat b = (0,0,0,2)"), other.tell("in a (0,3)")], ["flat b = (0,0,0,1)", "in 3"])
        self.assertEqual(Desk().tell("flat c = (2,2,2)"), "flat c = (1,1,1)")


if __name__ == "__main__":
    unittest.main()
