"""perfectorders/texts.py: [11] texts."""

import unittest

from perfectorders.errors import BadText, BadWeb
from perfectorders.texts import web_from, web_text
from perfectorders.webs import Web
from tests.by_hand import Case, all_webs


class Lines(Case):
    def test_lines(self):
        self.same(web_text(Web(0)), "web 0:")
        self.same(web_text(Web(1)), "web 1:")
        self.same(web_text(Web(3, [(2, 1), (1, 0)])), "web 3: 0-1 1-2")
        self.same(web_text(Web(12, [(11, 10), (2, 10), (2, 3)])), "web 12: 2-3 2-10 10-11")

    def test_read_again(self):
        for web in all_webs(4):
            self.same(web_from(web_text(web)), web)
        for web in (Web.full(16), Web.ring(16), Web.bare(16)):
            self.same(web_from(web_text(web)), web)

    def test_any_order_either_way_round(self):
        self.same(web_from("web 4: 3-2 0-3 1-0"), Web(4, [(0, 1), (0, 3), (2, 3)]))

    def test_other_lines(self):
        for line in ("", "web", "web ", "web:", "web :", "web 3", "3:", "Web 3:", "web 3 :", "web  3:", " web 3:",
                     "web 3: ", "web 3:  0-1", "web 3:0-1", "web 3: 0-1 ", "web 3: 0-1  1-2", "web 03:", "web 00:",
                     "web -1:", "web +3:", "web 3.0:", "web 3: 00-1", "web 3: 0-01", "web 3: 0 -1", "web 3: 0- 1",
                     "web 3: 0-1-2", "web 3: 0", "web 3: -1", "web 3: 0-", "web 3: -", "web 3: 0--1", "web 3: 0-1,",
                     "web 3: 0-1, 1-2", "web 3: 0_1", "web 3: a-b", "web x:", "web 3:: 0-1", "web 3: +0-1",
                     "web 3: 0-1\n", "web 33", "web 3;", "web 33 0-1", "web 3;: 0-1", "web 3:4 0-1", "web 3:\t0-1", "web 1_0:", "web 3: 0-1 web", "knot 3: 0-1", "web 3: 0-+1"):
            self.raises(BadText(line), web_from, line)

    def test_no_clash_twice(self):
        self.raises(BadText("web 3: 0-1 1-0"), web_from, "web 3: 0-1 1-0")
        self.raises(BadText("web 3: 0-1 0-1"), web_from, "web 3: 0-1 0-1")
        self.raises(BadText("web 3: 1-2 0-1 2-1"), web_from, "web 3: 1-2 0-1 2-1")

    def test_no_text(self):
        for line in (None, 3, True, b"web 3:", ["web 3:"], ("web", 3), Web(3)):
            self.raises(BadText(line), web_from, line)

    def test_cause_is_the_first_bad_pair(self):
        for line, cause in (("web 3: 0-1 3-0 1-1", BadWeb(3, 0)), ("web 3: 2-2", BadWeb(2, 2)),
                            ("web 0: 0-0", BadWeb(0, 0)), ("web 3: 0-1 1-999999999", BadWeb(1, 999999999)),
                            ("web 2: 0-1 1-2 1-2", BadWeb(1, 2))):
            error = self.raises(BadText(line), web_from, line)
            self.assertIs(type(error.__cause__), BadWeb)
            self.same((error.__cause__.x, error.__cause__.y), (cause.x, cause.y))


if __name__ == "__main__":
    unittest.main()
