import unittest

from itertools import product

from rowclash.desk import Desk
from rowclash.errors import Collision, Held, Missing, NotKeys, NothingDone, NotLine, TooLarge, TooMany
from rowclash.rules import Rule
from rowclash.scans import Formula, safe_scans
from rowclash.sessions import Session
from samples import ANYTHING, MOST

SMALL = 10 ** 15 - 1
LARGE, HUGE = "1" + "0" * 15, "1" + "0" * 30
# What is no number as it is written, or has too many digits.
NO_NUMBERS = (
    "", "x", "1x", "01", "-0", "00", "+1", "--1", "-", "1-", "1.0", "1_0", "0x1", "1e1", "\u0661", "\u00b2", "\t1",
    "1\n", "**", "None", HUGE, "-" + HUGE, "9" * 2000, "1,", "(1)",
)
NO_SMALL_NUMBERS = NO_NUMBERS + (LARGE, "-" + LARGE, str(MOST))
NO_LINES = (
    "", " ", "  ", "\n", "keys ", " keys", "keys\n", "KEYS", "Keys", "key", "keys keys", "keys 1", "none", "ok", "say",
    "rule", "rule ", "rule  fail", "rule Fail", "rule FAIL", "rule abort fail", "rule other", "rule Abort()", "rule 1",
    "rule fail ", "put", "put ", "drop", "drop ", "put  1", "put 1 ", "put 1  2", " put 1", "put\n1", "put,1", "put 1,2",
    "PUT 1", "change", "change 1", "change 1 1", "change 1 1 up", "change 1 1 up *", "change 1 1 up * * *",
    "change 1 1 UP * *", "change 1 1 upp * *", "change 1 1 * * *", "change 1 1 up  * *", "change 1  1 up * *",
    "change * 1 up * *", "change 1 * up * *", "change 1 1 * *", "change 1 1 up * * ", "change 1 1 up ** *",
    "change 1 1 up None *", "change 1 1 up * none", "undo ", "undo 1", "undo undo", "Undo", "safe", "safe 1",
    "safe 1 1", "safe 1 1 *", "safe 1 1 * * *", "safe 1 1 up * *", "safe * 1 * *", "safe 1 * * *", "safe 1 1  * *",
    "safe 1 1 * * ", "attempt", "twin", "obey fail", "session", "change 1 1 up **", "1", "*", "undo\n",
) + tuple(
    line for thing in NO_NUMBERS for line in (f"put {thing}", f"drop {thing}", f"put 1 {thing}", f"drop {thing} 1")
) + tuple(
    line for thing in NO_SMALL_NUMBERS for line in (
        f"change {thing} 1 up * *", f"change 1 {thing} up * *", f"change 1 1 up {thing} *", f"change 1 1 up * {thing}",
        f"safe {thing} 1 * *", f"safe 1 {thing} * *", f"safe 1 1 {thing} *", f"safe 1 1 * {thing}",
    )
)


def desk_with(*lines):
    desk = Desk()
    for line in lines:
        desk.say(line)
    return desk


class Lines(unittest.TestCase):
    """Promise 121."""

    def test_keys(self):
        self.assertEqual(Desk().say("keys"), "none")
        self.assertEqual(desk_with("put 5").say("keys"), "5")
        self.assertEqual(desk_with("put 5 -1 0", f"put {MOST} {-MOST}").say("keys"), f"{-MOST} -1 0 5 {MOST}")

    def test_put_and_drop(self):
        desk = Desk()
        self.assertEqual(desk.say("put 3 1 2"), "ok")
        self.assertEqual(desk.say("drop 1"), "ok")
        self.assertEqual(desk.say("keys"), "2 3")
        self.assertEqual(desk.say("drop 3 2"), "ok")
        self.assertEqual(desk.say("keys"), "none")
        self.assertEqual(desk.say("put " + " ".join(str(key) for key in range(40))), "ok")

    def test_change(self):
        desk = desk_with("put 1 2 3")
        self.assertEqual(desk.say("change 1 1 down * *"), "3 3")
        self.assertEqual(desk.say("keys"), "2 3 4")
        self.assertEqual(desk.say("change 1 10 up 3 3"), "1 3")
        self.assertEqual(desk.say("change 1 -5 up * 0"), "0 3")
        self.assertEqual(desk.say("change 0 7 up 13 *"), "1 3")
        self.assertEqual(desk.say("keys"), "2 4 7")
        desk = desk_with("put 1 2 3", "rule replace")
        self.assertEqual(desk.say("change 1 1 up * *"), "2 2")
        self.assertEqual(desk.say("keys"), "2 4")
        desk = desk_with("put 1 2 3", "rule ignore")
        self.assertEqual(desk.say("change 1 1 up * *"), "1 3")
        self.assertEqual(desk.say("keys"), "1 2 4")
        self.assertEqual(Desk().say(f"change {SMALL} {-SMALL} near {-SMALL} {SMALL}"), "0 0")

    def test_rule(self):
        for word in ("abort", "fail", "ignore", "replace"):
            desk = desk_with("put 1 2 3 7")
            self.assertEqual(desk.say(f"rule {word}"), "ok")
            session = Session(1, 2, 3, 7, rule=Rule.named(word))
            self.assert_same(desk, session, "change 1 1 far 2 *", lambda: session.change(Formula(1, 1), scan="far", low=2))

    def assert_same(self, desk, session, line, call):
        """Whether the desk does with the line what the session does."""
        try:
            outcome = call()
        except Collision as error:
            with self.assertRaises(Collision) as caught:
                desk.say(line)
            self.assertEqual((caught.exception.row, caught.exception.holder), (error.row, error.holder))
            self.assertEqual(caught.exception.__cause__.key, error.__cause__.key)
        else:
            self.assertEqual(desk.say(line), f"{len(outcome.moved)} {len(outcome.left)}")
        self.assertEqual(desk.say("keys"), " ".join(str(key) for key in session.stored))

    def test_each_scan_and_bounds(self):
        for word, scan, low, high, (times, plus) in product(
            ("fail", "ignore", "replace"), ("up", "down", "far", "near"), (None, 2), (None, 5), ((1, 1), (2, -3), (0, 4)),
        ):
            desk, session = desk_with("put 1 2 3 5 8", f"rule {word}"), Session(1, 2, 3, 5, 8, rule=Rule.named(word))
            bounds = " ".join("*" if bound is None else str(bound) for bound in (low, high))
            formula = Formula(times, plus)
            self.assert_same(
                desk, session, f"change {times} {plus} {scan} {bounds}",
                lambda: session.change(formula, scan=scan, low=low, high=high),
            )

    def test_undo(self):
        desk = desk_with("put 1 2", "rule fail", "change 1 5 up 2 2", "drop 1")
        for keys in ("1 7", "1 2", "none"):
            self.assertEqual(desk.say("undo"), "ok")
            self.assertEqual(desk.say("keys"), keys)
        with self.assertRaises(NothingDone):
            desk.say("undo")

    def test_safe(self):
        desk = Desk()
        self.assertEqual(desk.say("safe 1 1 * *"), "down")
        self.assertEqual(desk.say("safe 3 -4 * *"), "far")
        self.assertEqual(desk.say("safe -1 5 * *"), "none")
        self.assertEqual(desk.say("safe 1 0 * *"), "up down far near")
        self.assertEqual(desk.say(f"safe {SMALL} {SMALL} {-SMALL} {SMALL}"), "none")
        for times, plus, low, high in product((-1, 0, 1, 2), (-2, 0, 3), (None, -1, 3), (None, 0, 3)):
            bounds = " ".join("*" if bound is None else str(bound) for bound in (low, high))
            expected = " ".join(safe_scans(Formula(times, plus), low=low, high=high)) or "none"
            self.assertEqual(desk.say(f"safe {times} {plus} {bounds}"), expected)
        self.assertEqual(desk.say("keys"), "none")

    def test_the_largest_numbers(self):
        desk = Desk()
        self.assertEqual(desk.say(f"put {MOST} {-MOST}"), "ok")
        self.assertEqual(desk.say(f"change {-SMALL} {SMALL} down {SMALL} {SMALL}"), "0 2")
        self.assertEqual(desk.say(f"drop {MOST}"), "ok")

    def test_no_line(self):
        for line in NO_LINES:
            desk = desk_with("put 1 2 3", "put 4")
            with self.subTest(line=line), self.assertRaises(NotLine):
                desk.say(line)
            self.assertEqual(desk.say("keys"), "1 2 3 4")
            desk.say("undo")
            self.assertEqual(desk.say("keys"), "1 2 3")

    def test_any_value(self):
        desk = Desk()
        for thing in ANYTHING + (b"keys", ["keys"], ("keys",), ("put", 1), {"keys": 1}, None, 0, 1):
            with self.subTest(thing=thing), self.assertRaises(NotLine):
                desk.say(thing)
        self.assertEqual(desk.say("keys"), "none")

    def test_no_line_comes_before_all_else(self):
        desk = desk_with("put 1 2")
        for line in ("put 1 01", "put 1 1 x", "drop 9 -0", "change 1 1 up 5 +3", f"change {LARGE} 1 up * *", "undo now"):
            with self.subTest(line=line), self.assertRaises(NotLine):
                desk.say(line)

    def test_the_exceptions_of_the_session(self):
        many = " ".join(str(key) for key in range(50, 100))
        for line, wrong in (
            ("put 1", Held), ("put 5 2 1", Held), ("put 5 5", NotKeys), ("put 1 1", NotKeys), ("drop 1 1", NotKeys),
            ("drop 9", Missing), ("drop 1 9", Missing), (f"put {many}", TooMany), ("change 1 1 up * *", Collision),
            (f"change {SMALL} 0 up * *", TooLarge),
        ):
            for rule in ("abort", "fail"):
                desk = desk_with(f"put 1 2 3 {MOST}", f"rule {rule}")
                if wrong is Collision:
                    desk.say(f"drop {MOST}")
                before = desk.say("keys")
                with self.subTest(line=line), self.assertRaises(wrong) as caught:
                    desk.say(line)
                self.assertEqual(desk.say("keys"), before)
        with self.assertRaises(Held) as caught:
            desk.say("put 5 2 1")
        self.assertEqual(caught.exception.key, 2)
        with self.assertRaises(NothingDone):
            Desk().say("undo")

    def test_two_desks_know_nothing_of_each_other(self):
        one, other = Desk(), Desk()
        one.say("put 1 2")
        one.say("rule ignore")
        self.assertEqual(other.say("keys"), "none")
        other.say("put 1 2")
        with self.assertRaises(Collision):
            other.say("change 1 1 up * *")
        self.assertEqual(one.say("change 1 1 up * *"), "1 2")
        self.assertEqual((one.say("keys"), other.say("keys")), ("1 3", "1 2"))

    def test_by_name(self):
        self.assertEqual(Desk().say(line="keys"), "none")


if __name__ == "__main__":
    unittest.main()
