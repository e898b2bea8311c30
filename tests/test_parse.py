"""[48]: texts that tell a map, and the first wrong line of all others."""

import random
import time
import unittest

from cornerfade.errors import BadText
from cornerfade.maps import is_map
from cornerfade.texts import parse, printed
from tests import flows, reading
from tests.samples import EMPTY, LEGAL, NESTED, TENT, greatest_map, is_plain

FAR = 1000000000
# Three nodes; what is tried stands in line 3.
NODES = "node a 0 0\nnode b 10 0\nnode c 5 -5\n"
LINES = NODES + "line ab a b 5 5\n"
MARKS = LINES + "mark m 1 1 2 3\n"


def letters(number):
    """A name of two letters for each number below 676."""
    return chr(97 + number // 26) + chr(97 + number % 26)


class ParseTest(unittest.TestCase):
    def tells(self, text, world):
        """Asserts that a text tells this map, by both ways to read it."""
        found = parse(text)
        self.assertEqual(found, world)
        self.assertTrue(is_plain(found))
        self.assertEqual(reading.read(text), world)

    def bad(self, at, text):
        """Asserts that the first wrong line of a text has this number."""
        with self.assertRaises(BadText) as caught:
            parse(text)
        self.assertIs(type(caught.exception), BadText)
        self.assertEqual(caught.exception.at, at, repr(text)[:200])
        self.assertIs(type(caught.exception.at), int)
        if isinstance(text, str):
            self.assertEqual(reading.read(text), at)

    def good_and_bad(self, before, lines, others):
        """Asserts that each of the lines may stand behind a text, and none of the others."""
        at = before.count("\n")
        for line in lines:
            self.assertIs(is_map(parse(before + line)), True, line)
            self.tells(before + line + "\n", parse(before + line))
        for line in others:
            self.bad(at, before + line)
            self.bad(at, before + line + "\n")
            self.bad(at + 2, before + "\n  \n" + line)
            self.bad(at, before + line + "\nnonsense\n" + line)


class GoodTextsTest(ParseTest):
    def test_each_kind(self):
        self.tells("node a 0 0\n", ((("a", 0, 0),), (), ()))
        self.tells("mark m -1 2 3 4\n", ((), (), (("m", -1, 2, 3, 4),)))
        self.tells(
            "node a 0 0\nnode b 9 0\nline l a b\n",
            ((("a", 0, 0), ("b", 9, 0)), (("l", "a", "b", ()),), ()),
        )
        self.tells("node a 0 0\nnode b 10 0\nline rim a b 2 1 5 6 8 1\nmark hut 5 2 1 1\n", TENT)

    def test_the_empty_text(self):
        for text in ("", "\n", " ", "   ", "\n\n\n", "  \n   \n ", " " * 20000, "\n" * 20000, " \n" * 10000):
            self.tells(text, EMPTY)

    def test_the_last_line_feed_may_lack(self):
        for world in LEGAL:
            self.tells(printed(world), world)
            self.tells(printed(world)[:-1], world)
            self.tells(printed(world) + "\n", world)

    def test_spaces(self):
        self.tells("  node   a  0    0   \n node b   1 1", ((("a", 0, 0), ("b", 1, 1)), (), ()))
        for world in (TENT, NESTED, greatest_map()):
            text = printed(world)
            for many in (1, 2, 7):
                for changed in (
                    text.replace(" ", " " * many), text.replace("\n", " " * many + "\n"),
                    text.replace("\n", "\n" + " " * many), " " * many + text, text + " " * many,
                ):
                    self.tells(changed, world)

    def test_lines_without_words(self):
        for world in (TENT, NESTED):
            lines = printed(world).split("\n")
            for between in ("\n", "\n\n", "\n \n", "\n   \n\n  \n"):
                self.tells(between.join(lines), world)
                self.tells(between + between.join(lines) + between, world)
            for at in range(len(lines)):
                self.tells("\n".join(lines[:at] + ["", "  "] + lines[at:]), world)

    def test_maps_that_are_not_legal(self):
        text = "node a 0 0\nnode b 0 0\nline l a b 0 0\nline k b a\nmark a 0 0 0 0\nmark l 0 0 0 0\n"
        self.tells(text, (
            (("a", 0, 0), ("b", 0, 0)), (("l", "a", "b", ((0, 0),)), ("k", "b", "a", ())),
            (("a", 0, 0, 0, 0), ("l", 0, 0, 0, 0)),
        ))

    def test_names_that_are_words_of_texts(self):
        self.tells(
            "node node 1 2\nnode line 3 4\nline mark line node\nmark node 5 6 7 8",
            ((("node", 1, 2), ("line", 3, 4)), (("mark", "line", "node", ()),), (("node", 5, 6, 7, 8),)),
        )

    def test_by_name(self):
        self.assertEqual(parse(text="node a 1 2"), ((("a", 1, 2),), (), ()))


class FormsTest(ParseTest):
    def test_no_string(self):
        for value in (
            None, True, False, 0, 1, 10 ** 30, [], (), ["node a 0 0"], ("node a 0 0",), [[]], EMPTY, TENT,
            [""], [0] * 5000,
        ):
            self.bad(0, value)

    def test_unknown_words(self):
        self.good_and_bad(MARKS, ("", "   "), (
            "x", "nodes a 0 0", "Node d 0 0", "NODE d 0 0", "nod d 0 0", "lines x a b", "Mark n 0 0 0 0",
            "marks n 0 0 0 0", "d 0 0", "0 0 0", "#", "# node d 0 0", "-", "map", ";", "noded 0 0",
            "mark,n,0,0,0,0", "a", "0", "\\", "\"\"",
        ))
        self.bad(0, "x")
        self.bad(0, "x\nnode a 0 0")
        self.bad(2, "\n\nx")

    def test_too_few_or_too_many_words(self):
        self.good_and_bad(NODES, ("node d 1 2",), (
            "node", "node d", "node d 1", "node d 1 2 3", "node d 1 2 3 4", "node 1 2", "node d e 1 2",
            "node d 1 2 node", "node d 1 2 e",
        ))
        self.good_and_bad(NODES, ("line l a b", "line l a b 1 2", "line l a b 1 2 3 4"), (
            "line", "line l", "line l a", "line l a b 1", "line l a b 1 2 3", "line l a b c",
            "line l a b 1 2 c", "line a b", "line a b 1 2", "line l 1 2", "line l a b 1 2 3 4 5",
        ))
        self.good_and_bad(LINES, ("mark m 1 1 2 3",), (
            "mark", "mark m", "mark m 1", "mark m 1 1", "mark m 1 1 2", "mark m 1 1 2 3 4",
            "mark 1 1 2 3", "mark m 1 1 2 3 m", "mark m n 1 1 2 3",
        ))

    def test_other_white_space(self):
        for sign in ("\t", "\r", "\f", "\v", "\0", "\x1c", "\x85", "\xa0", "\u2003", "\u2028", "\u3000"):
            self.good_and_bad(NODES, (), (
                "node" + sign + "d 1 2", "node d 1 2" + sign, sign + "node d 1 2", sign,
                "node d " + sign + " 1 2", "node d 1" + sign + "2", "node d" + sign + " 1 2", " " + sign + " ",
            ))
        self.bad(0, "node a 0 0\r\nnode b 1 1\r\n")
        self.bad(1, "node a 0 0\n\r\n")
        self.bad(0, "\ufeffnode a 0 0")

    def test_numbers(self):
        for before, line in ((NODES, "node d N 1"), (NODES, "line l a b 1 N"), (LINES, "mark n N 1 2 3")):
            good = ("0", "1", "-1", "10", "100", "-10", "9", "1000000000", "-1000000000", "999999999")
            wrong = (
                "00", "01", "-0", "-00", "-01", "+0", "+1", "+", "-", "--1", "-+1", "+-1", "1-", "1+", "1-1",
                "1.0", "1.", ".5", "1e3", "0x1", "0b1", "0o7", "1_0", "1,0", "a", "-a", "1a", "a1", "O", "l",
                "1000000001", "-1000000001", "01000000000", "10000000000", "-10000000000", "9999999999",
                "0" * 11, "1/2", "(1)", "'1'", "1L", "nan", "inf", "None", "True", "\u0661", "\xb2", "\uff11",
                "- 1",
            )
            self.good_and_bad(before, [line.replace("N", word) for word in good], [
                line.replace("N", word) for word in wrong
            ])

    def test_numbers_of_thousands_of_digits(self):
        for many in (11, 12, 100, 4300, 4301, 5000, 19000):
            for word in ("1" * many, "-" + "9" * many, "0" * many, "1" + "0" * many, "0" * many + "1", "-" * many):
                self.bad(3, NODES + "node d 1 " + word)
                self.bad(3, NODES + "line l a b 1 " + word)
                self.bad(4, LINES + "mark m 1 1 1 " + word)

    def test_sizes_of_labels(self):
        sizes = ("0", "1", "999999", "1000000")
        wrong = ("-1", "1000001", "-1000000", "1000000000", "00", "-0", "+1", "01", "x", "")
        self.good_and_bad(
            LINES,
            ["mark m 1 1 " + size + " 0" for size in sizes] + ["mark m 1 1 0 " + size for size in sizes],
            ["mark m 1 1 " + size + " 0" for size in wrong] + ["mark m 1 1 0 " + size for size in wrong],
        )

    def test_names(self):
        names = ("d", "z", "abcdefgh", "node", "zzzzzzzz")
        wrong = (
            "D", "aB", "1", "-1", "0", "a1", "1a", "abcdefghi", "a" * 1000, "a-b", "a_b", "a.", "'a'", "_",
            "\xe9", "\u0430", "a,", "*", "-",
        )
        for before, line in ((NODES, "node N 1 2"), (NODES, "line N a b"), (LINES, "mark N 1 1 1 1")):
            self.good_and_bad(
                before, [line.replace("N", name) for name in names],
                [line.replace("N", name) for name in wrong],
            )
        self.good_and_bad(NODES, (), [
            form.replace("N", name) for name in wrong + ("ab", "d") for form in ("line l N a", "line l a N")
        ])


class RowsBeforeTest(ParseTest):
    def test_names_used_twice(self):
        self.good_and_bad(NODES, ("node d 0 0", "line a a b"), ("node a 1 1", "node c 5 -5", "node b 0 0"))
        self.good_and_bad(LINES, ("line a a c", "line ba a b"), ("line ab a c", "line ab a b 5 5"))
        self.good_and_bad(MARKS, ("mark a 1 1 1 1", "mark ab 1 1 1 1"), ("mark m 5 5 5 5",))

    def test_ends(self):
        self.good_and_bad(NODES, ("line l a b", "line l b a", "line l c a 1 1"), (
            "line l a d", "line l d a", "line l d e", "line l a a", "line l b b 1 1", "line l a ab",
            "line l l a", "line l a l",
        ))
        # A mark or a line is no node, and a node behind the line is none that it may end at.
        self.good_and_bad(LINES, (), ("line l ab a", "line l a ab", "line l m a"))
        self.bad(1, "node a 0 0\nline l a b\nnode b 1 1\n")
        self.bad(0, "line l a b\nnode a 0 0\nnode b 1 1\n")

    def test_kinds_in_their_sequence(self):
        node, line, mark = "node d 9 9", "line l b c", "mark n 4 4 4 4"
        self.good_and_bad(NODES, (node, line, mark), ())
        self.good_and_bad(LINES, (line, mark), (node,))
        self.good_and_bad(MARKS, (mark,), (node, line))
        self.good_and_bad(NODES + "mark m 1 1 1 1\n", (mark,), (node, line))
        self.good_and_bad("mark m 1 1 1 1\n", (mark,), (node,))
        self.bad(5, MARKS + node + "\n" + line)
        self.bad(6, MARKS + "\n" + node + "\n" + line)

    def test_counts_of_nodes(self):
        nodes = ["node " + letters(k) + " 0 0\n" for k in range(20)]
        self.tells("".join(nodes[:16]), (tuple((letters(k), 0, 0) for k in range(16)), (), ()))
        for many in (17, 18, 20):
            self.bad(16, "".join(nodes[:many]))
            self.bad(32, "\n".join(nodes[:many]))
        self.bad(16, "".join(nodes[:16]) + "node aa 0 0")

    def test_counts_of_lines(self):
        lines = ["line " + letters(k) + " a b\n" for k in range(20)]
        self.assertEqual(len(parse(NODES + "".join(lines[:16]))[1]), 16)
        for many in (17, 18, 20):
            self.bad(19, NODES + "".join(lines[:many]))

    def test_counts_of_marks(self):
        marks = ["mark " + letters(k) + " 0 0 0 0\n" for k in range(20)]
        self.assertEqual(len(parse("".join(marks[:10]))[2]), 10)
        for many in (11, 12, 20):
            self.bad(10, "".join(marks[:many]))
            self.bad(13, NODES + "".join(marks[:many]))

    def test_corners_of_a_line(self):
        self.good_and_bad(NODES, ["line l a b" + " 1 2" * many for many in (0, 1, 11, 12)], [
            "line l a b" + " 1 2" * many for many in (13, 14, 60, 61, 1000)
        ] + ["line l a b" + " 1" * odd for odd in (1, 23, 25, 27)])

    def test_corners_over_all_lines(self):
        full = NODES + "".join("line " + letters(k) + " a b" + " 1 2" * 12 + "\n" for k in range(5))
        self.good_and_bad(full, ("line l a b", "mark m 0 0 0 0"), ("line l a b 1 2", "line l a b" + " 1 2" * 12))
        short = NODES + "".join("line " + letters(k) + " a b" + " 1 2" * 11 + "\n" for k in range(5))
        self.good_and_bad(
            short, ["line l a b" + " 1 2" * many for many in (0, 4, 5)],
            ["line l a b" + " 1 2" * many for many in (6, 7, 12, 13)],
        )
        self.bad(9, short + "line x a b" + " 1 2" * 5 + "\nline y a b 1 2")

    def test_the_first_wrong_line(self):
        lines = MARKS.split("\n")[:-1]
        for at in range(len(lines) + 1):
            for later in range(at, len(lines) + 1):
                changed = list(lines)
                changed.insert(later, "wrong")
                changed.insert(at, "wrong")
                self.bad(at, "\n".join(changed))
        # A line before it may lack: then an end is no node, in line 2.
        self.bad(2, "\n".join(lines[1:]))

    def test_counted_over_all_lines(self):
        for before in ("\n", "\n\n", "  \n", " \n \n\n"):
            self.bad(before.count("\n"), before + "wrong")
            self.bad(1 + before.count("\n"), "node a 0 0" + before + "\nwrong")
            self.bad(0, "wrong" + before)


class AllTest(ParseTest):
    def changed(self, draw, text):
        """The text with a small change somewhere."""
        at = draw.randrange(len(text) + 1)
        lines = text.split("\n")
        kind = draw.randrange(8)
        if kind == 0:
            return text[:at] + text[at + 1:]
        if kind == 1:
            return text[:at] + draw.choice("  \n\n--++01239az\tA.") + text[at:]
        if kind == 2:
            return text[:at] + draw.choice("  \n-+0az\t") + text[at + 1:]
        if kind == 3:
            lines.insert(draw.randrange(len(lines)), draw.choice(lines))
        if kind == 4:
            lines.pop(draw.randrange(len(lines)))
        if kind == 5:
            one = draw.randrange(len(lines))
            lines.append(lines.pop(one))
        if kind == 6:
            lines.insert(draw.randrange(len(lines)), draw.choice(("", "  ", "\t", "node q 1 2", "line q a b 3 3")))
        if kind == 7:
            one = draw.randrange(len(lines))
            words = lines[one].split(" ")
            words.insert(draw.randrange(len(words) + 1), draw.choice(words + ["0", "1", "-1", "a", "b", ""]))
            lines[one] = " ".join(words)
        return "\n".join(lines)

    def test_changed_texts(self):
        answers = []
        for seed in range(1500):
            draw = random.Random(seed)
            world = flows.bent_map(seed % 30, 6 + seed % 9, 90)
            text = printed(world)
            for _ in range(draw.randrange(1, 4)):
                text = self.changed(draw, text)
            expected = reading.read(text)
            if isinstance(expected, int):
                self.bad(expected, text)
            else:
                self.tells(text, expected)
            answers.append(isinstance(expected, int))
        self.assertGreater(answers.count(True), 300)
        self.assertGreater(answers.count(False), 200)

    def test_long_texts_quickly(self):
        full = printed(greatest_map(900000))
        for text in (
            full + " " * (20000 - len(full)), full + "\n" * (20000 - len(full)), "node a 0 0\n" * 1818,
            NODES + "line l a b" + " 1" * 9900, NODES + "line l a b " + "1" * 19900, "a" * 20000, "a " * 10000,
            "a\n" * 10000, "-" * 20000, "0" * 20000, "node " * 4000, NODES + "mark m " + "9 " * 9900,
            full.replace("\n", " " * 50 + "\n" * 50), "node a 0 " + "1" * 19000,
        ):
            self.assertLessEqual(len(text), 20000)
            start = time.perf_counter()
            try:
                found = parse(text)
            except BadText as error:
                found = error.at
            self.assertLess(time.perf_counter() - start, 1)
            self.assertEqual(found, reading.read(text))

    def test_nothing_but_maps(self):
        for world in LEGAL + (greatest_map(900000),):
            text = printed(world)
            for at in range(0, len(text), 1 + len(text) // 200):
                try:
                    self.assertIs(is_map(parse(text[:at])), True)
                except BadText as error:
                    self.assertEqual(error.at, text[:at].count("\n"))


if __name__ == "__main__":
    unittest.main()
