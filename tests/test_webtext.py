"""Points 13 to 15: texts of webs."""

import unittest

from helpers import Cases, small_webs

from comesapart.errors import BadLine, BadSides, TooLarge, UnknownPlace, UnknownSide
from comesapart.webs import Web
from comesapart.webtext import format_web, parse_web


class FormatTests(unittest.TestCase):
    def test_example_of_the_document(self):
        web = Web([2, 1], [(0, 0, 0, 1), (0, 1, 1, 0)])
        self.assertEqual("place 2\nplace 1\ntie 0:0 0:1\ntie 0:1 1:0", format_web(web))

    def test_empty_web(self):
        self.assertEqual("", format_web(Web.empty()))
        self.assertEqual(Web.empty(), parse_web(""))

    def test_without_ties(self):
        self.assertEqual("place 4", format_web(Web([4], [])))

    def test_each_text_is_read_back(self):
        full = Web([4] * 200, [(k % 200, k % 4, 199 - k % 200, 3) for k in range(300)])
        for web in small_webs(100, 6, most_sides=4) + [full]:
            self.assertEqual(web, parse_web(format_web(web)))


class ParseTests(unittest.TestCase, Cases):
    def check_bad_line(self, line, text):
        self.assert_raises(BadLine, {"line": line}, parse_web, text)

    def check_cause(self, line, error, fields, text):
        with self.assertRaises(BadLine) as caught:
            parse_web(text)
        self.assertEqual(line, caught.exception.line)
        self.assertIs(error, caught.exception.__cause__.__class__)
        self.assertEqual(fields, vars(caught.exception.__cause__))

    def test_lines_with_a_wrong_form(self):
        for line in ("", " ", "place", "place ", " place 1", "place 1 ", "place  1", "place 1 1", "place 01",
                     "place 00", "place -1", "place +1", "place 1.0", "place x", "place 1\r", "place\t1", "Place 1",
                     "places 1", "place 1234567890", "place 0000000001", "place 1:1", "web", "1",
                     "tie", "tie 0:0", "tie 0:0 0:0 0:0", "tie 0:0  0:0", " tie 0:0 0:0", "tie 0:0 0:0 ",
                     "tie 0 0:0", "tie 0:0 0", "tie 0:0:0 0:0", "tie 0:0 0:0:0", "tie 0:0:0 0", "tie 0 0:0:0",
                     "tie 0: 0:0", "tie :0 0:0", "tie : 0:0", "tie 0:0 0 :0", "tie 00:0 0:0", "tie 0:00 0:0",
                     "tie 0:0 0:01", "tie 0:0 01:0", "tie -1:0 0:0", "tie 0:0 1234567890:0", "tie 0;0 0;0",
                     "tie 0:0,0:0", "place 1 tie 0:0 0:0", "% 1"):
            self.check_bad_line(2, "place 1\n" + line)
            self.check_bad_line(2, "place 1\n" + line + "\nplace 1")

    def test_digits_of_other_scripts_are_no_numbers(self):
        self.check_bad_line(1, "place \u0662")
        self.check_bad_line(1, "place \u00b2")

    def test_empty_lines(self):
        self.check_bad_line(2, "place 1\n")
        self.check_bad_line(1, "\nplace 1")
        self.check_bad_line(1, "\n")
        self.check_bad_line(3, "place 1\nplace 1\n\nplace 1")
        self.check_bad_line(3, "place 1\ntie 0:0 0:0\n")

    def test_place_line_behind_a_tie_line(self):
        self.check_bad_line(3, "place 1\ntie 0:0 0:0\nplace 1")
        self.check_bad_line(2, "tie 0:0 0:0\nplace 1")

    def test_the_first_wrong_form_counts(self):
        self.check_bad_line(2, "place 1\nno\ntie 0:0 0:0\nplace 1\nno")

    def test_forms_before_values(self):
        self.check_bad_line(4, "place 9\nplace 1\ntie 7:7 7:7\nno")
        self.check_bad_line(3, "place 9\ntie 7:7 7:7\nplace 1")

    def test_limits(self):
        places, ties = ["place 1"] * 200, ["tie 0:0 199:0"] * 300
        web = parse_web("\n".join(places + ties))
        self.assertEqual((200, 300), (len(web.sides), len(web.ties)))
        self.assert_raises(TooLarge, {"limit": 200}, parse_web, "\n".join(places + ["place 1"] + ties))
        self.assert_raises(TooLarge, {"limit": 300}, parse_web, "\n".join(places + ties + ["tie 0:0 0:0"]))

    def test_order_of_forms_limits_and_values(self):
        places, ties = ["place 9"] * 201, ["tie 999:9 999:9"] * 301
        self.check_bad_line(503, "\n".join(places + ties + [""]))
        self.assert_raises(TooLarge, {"limit": 200}, parse_web, "\n".join(places + ties))
        self.assert_raises(TooLarge, {"limit": 300}, parse_web, "\n".join(places[1:] + ties))
        self.check_bad_line(1, "\n".join(places[1:] + ties[1:]))

    def test_numbers_of_sides_that_do_not_fit(self):
        for number in (0, 5, 999999999):
            self.check_cause(2, BadSides, {"place": 1}, f"place 1\nplace {number}\nplace 0\ntie 9:9 9:9")

    def test_ends_that_do_not_fit(self):
        start = "place 1\nplace 2\ntie 0:0 1:1\n"
        self.check_cause(4, UnknownPlace, {"place": 2}, start + "tie 2:9 3:0\ntie 9:9 9:9")
        self.check_cause(4, UnknownPlace, {"place": 999999999}, start + "tie 0:0 999999999:0")
        self.check_cause(4, UnknownSide, {"place": 1, "side": 2}, start + "tie 1:2 9:9")
        self.check_cause(5, UnknownSide, {"place": 0, "side": 1}, start + "tie 0:0 0:0\ntie 1:1 0:1")
        self.check_cause(1, UnknownPlace, {"place": 0}, "tie 0:0 0:0")

    def test_errors_of_form_have_no_cause(self):
        with self.assertRaises(BadLine) as caught:
            parse_web("place 01")
        self.assertIsNone(caught.exception.__cause__)


if __name__ == "__main__":
    unittest.main()
