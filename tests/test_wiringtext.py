"""Points 13 and 71: texts of wirings."""

import unittest

from helpers import Cases, small_wirings, sound_wiring

from comesapart.errors import BadLine, BadLink, BadNode, NoLinks, TooLarge
from comesapart.wirings import Wiring
from comesapart.wiringtext import format_wiring, parse_wiring

WIRING = Wiring([(0, 2), (3, 1)], [("together", 0, 1), ("both", 2, 4)])
TEXT = "link 0 2\nlink 3 1\ntogether 0 1\nboth 2 4"


class FormatTests(unittest.TestCase):
    def test_written_form(self):
        self.assertEqual(TEXT, format_wiring(WIRING))
        self.assertEqual("link 1 0", format_wiring(Wiring([(1, 0)], [])))

    def test_each_text_is_read_back(self):
        self.assertEqual(WIRING, parse_wiring(TEXT))
        wirings = small_wirings(100, 71, most_nodes=9) + [sound_wiring(1, 40, 39), sound_wiring(2, 40, 0)]
        for wiring in wirings:
            self.assertEqual(wiring, parse_wiring(format_wiring(wiring)))


class ParseTests(unittest.TestCase, Cases):
    def check_bad_line(self, line, text):
        self.assert_raises(BadLine, {"line": line}, parse_wiring, text)
        with self.assertRaises(BadLine) as caught:
            parse_wiring(text)
        self.assertIsNone(caught.exception.__cause__)

    def check_cause(self, line, error, fields, text):
        with self.assertRaises(BadLine) as caught:
            parse_wiring(text)
        self.assertIs(BadLine, caught.exception.__class__)
        self.assertEqual(line, caught.exception.line)
        self.assertIs(error, caught.exception.__cause__.__class__)
        self.assertEqual(fields, vars(caught.exception.__cause__))

    def test_lines_with_a_wrong_form(self):
        for line in ("", " ", "link", "link ", "link 2", "link 2 ", " link 2 3", "link 2 3 ", "link  2 3", "link 2  3",
                     "link 2 3 4", "link 02 3", "link 2 03", "link 00 3", "link -2 3", "link +2 3", "link 2.0 3",
                     "link 2 x", "link 2,3", "link 2:3", "link 2\t3", "link 2 3\r", "Link 2 3", "links 2 3", "linked",
                     "link 1234567890 3", "link 2 0000000003", "link 2 1234567890", "both", "both 2", "both 2 3 4",
                     "both 02 3", "both 2 03", "both  2 3", " both 2 3", "both 2 3 ", "Both 2 3", "neither 2 3",
                     "together 2", "together 2 3 4", "together 00 1", "together 2 1234567890", "place 2 3", "2 3",
                     "2 3 link", "both 2 -1", "together: 2 3", "link 2 3 link 2 3"):
            for text, number in ((line, 1), ("link 0 1\n" + line, 2), ("link 0 1\n" + line + "\nlink 2 3", 2),
                                 ("link 0 1\nlink 2 3\n" + line + "\nboth 0 2", 3),
                                 ("link 0 1\nlink 2 3\nboth 0 2\n" + line, 4), (line + "\nlink 0 1", 1),
                                 (line + "\nno", 1)):
                # The empty text has no line.
                if text:
                    self.check_bad_line(number, text)

    def test_digits_of_other_scripts_are_no_numbers(self):
        self.check_bad_line(1, "link 0 \u0661")
        self.check_bad_line(2, "link 0 1\nboth \u00b2 0")

    def test_empty_lines(self):
        self.check_bad_line(2, "link 0 1\n")
        self.check_bad_line(1, "\nlink 0 1")
        self.check_bad_line(1, "\n")
        self.check_bad_line(5, TEXT + "\n")

    def test_a_link_line_behind_a_node_line(self):
        self.check_bad_line(3, "link 0 1\nboth 0 1\nlink 2 3")
        self.check_bad_line(2, "together 0 1\nlink 0 1")
        self.check_bad_line(4, "link 0 1\ntogether 0 1\nboth 9 9\nlink 2 3\nlink 2 3")

    def test_numbers_of_nine_and_ten_digits(self):
        self.check_cause(1, BadLink, {"link": 0}, "link 0 999999999")
        self.check_cause(2, BadNode, {"node": 0}, "link 0 1\nboth 0 100000000")
        self.check_bad_line(1, "link 0 1000000000")
        self.check_bad_line(2, "link 0 1\nboth 0 1000000000")

    def test_texts_without_links(self):
        self.assert_raises(NoLinks, {}, parse_wiring, "")
        self.assert_raises(NoLinks, {}, parse_wiring, "both 0 1")
        self.assert_raises(NoLinks, {}, parse_wiring, "both 9 9\ntogether 0 0")

    def test_limits(self):
        lines = [f"link {2 * link} {2 * link + 1}" for link in range(41)]
        self.assertEqual(80, parse_wiring("\n".join(lines[:40])).leaves)
        self.assert_raises(TooLarge, {"limit": 40}, parse_wiring, "\n".join(lines))
        self.assert_raises(TooLarge, {"limit": 40}, parse_wiring, "\n".join(["link 9 9"] * 41 + ["both 0 0"]))

    def test_forms_before_limits_and_limits_before_values(self):
        self.check_bad_line(42, "\n".join(["link 9 9"] * 41 + ["both 0"]))
        self.check_bad_line(2, "both 9 9\nno")
        self.check_bad_line(3, "link 9 9\nboth 9 9\nboth 01 0")
        self.check_cause(2, BadLink, {"link": 1}, "link 0 1\nlink 9 9\nboth 9 9")

    def test_links_that_do_not_fit(self):
        for link in ("4 2", "2 4", "0 2", "2 1", "2 2", "0 1"):
            self.check_cause(2, BadLink, {"link": 1}, f"link 0 1\nlink {link}")
            self.check_cause(2, BadLink, {"link": 1}, f"link 0 1\nlink {link}\nboth 7 7\nboth 8 8")
        self.check_cause(1, BadLink, {"link": 0}, "link 4 0\nlink 1 9")

    def test_nodes_that_do_not_fit(self):
        start = "link 0 1\nlink 2 3\nboth 0 1\n"
        for parts in ("5 2", "2 5", "2 6", "0 2", "2 1", "2 2", "4 4", "999999999 2"):
            self.check_cause(4, BadNode, {"node": 1}, start + f"together {parts}")
            self.check_cause(4, BadNode, {"node": 1}, start + f"both {parts}\nboth 0 0")
        self.check_cause(3, BadNode, {"node": 0}, "link 0 1\nlink 2 3\nboth 4 0")
        self.check_cause(6, BadNode, {"node": 3}, start + "both 2 3\nboth 4 5\ntogether 4 6")


if __name__ == "__main__":
    unittest.main()
