import unittest

from random import Random

from model import WORDS, execute, moved_in, statement_of
from rowclash.errors import (
    Collision, Held, Missing, NotBound, NotDeed, NotFormula, NotKeys, NothingDone, NotRule, NotScan, RowError,
    TooLarge, TooMany,
)
from rowclash.outcomes import Outcome
from rowclash.rules import Abort, Fail, Ignore, Replace, Rule
from rowclash.scans import Formula
from rowclash.sessions import Session
from rowclash.tables import Table
from samples import ANYTHING, MOST, NO_INTEGERS, NO_KEYS, line_of_rows

SMALL = 10 ** 15 - 1
NO_RULES = tuple(thing for thing in ANYTHING if not isinstance(thing, Rule)) + ("abort", "Abort()", 0, Abort)
STEP = Formula(1, 1)
# What is no deed of an attempt, whatever stands in the other parts.
NO_DEEDS = tuple(thing for thing in ANYTHING) + (
    "put", ("put",), ("drop",), ("change",), ("put", 1), ("put", [1]), ("drop", {1: 1}), ("put", None), ("drop", "12"),
    ("put", (1,), (2,)), ("put", 1, 2), ["put", (1,)], ("PUT", (1,)), (b"put", (1,)), ("undo",), ("undo", ()),
    ("obey", (Fail(),)), ("change", STEP), ("change", STEP, "up"), ("change", STEP, "up", None),
    ("change", STEP, "up", None, None, None), ["change", STEP, "up", None, None], (), ("twin",), (("put", (1,)),),
    ("undo", STEP, "up", None, None), (None, STEP, "up", None, None), ("put", STEP, "up", None, None),
    ("attempt", ()), ("change", (STEP, "up", None, None)), {"put": (1,)}, ("put", (1,), None), (None, (1,)),
)


def states(session):
    """All that can be seen of a session: its keys and rule, and the keys behind each undo."""
    other, told = session.twin(), [(session.stored, repr(session.rule))]
    while True:
        try:
            other.undo()
        except NothingDone:
            return told
        told.append(other.stored)


class Model:
    """A session in plain words; an error is told by its name."""

    def __init__(self, keys, word):
        self.stored, self.word, self.before = set(keys), word, []

    def do(self, stored):
        self.before.append(self.stored)
        self.stored = set(stored)

    def put(self, keys):
        held = [key for key in keys if key in self.stored]
        if len(set(keys)) != len(keys) or not keys:
            return "NotKeys"
        if held:
            return f"Held {held[0]}"
        if len(self.stored) + len(keys) > 40:
            return f"TooMany {len(self.stored) + len(keys)}"
        self.do(self.stored | set(keys))
        return None

    def drop(self, keys):
        if len(set(keys)) != len(keys) or not keys:
            return "NotKeys"
        if not set(keys) <= self.stored:
            return "Missing"
        self.do(self.stored - set(keys))
        return None

    def change(self, times, plus, scan, low, high):
        rows, order = statement_of(self.stored, times, plus, scan, low, high)
        stop, ends = execute(rows, order, self.word)
        if not stop or self.word == "fail":
            self.do(key for _, key in ends)
        if stop:
            return f"Collision {stop[0]} {stop[1]} {dict(rows)[stop[0]]}"
        return (rows, ends, moved_in(rows, ends))

    def undo(self):
        if not self.before:
            return "NothingDone"
        self.stored = self.before.pop()
        return None


def told(call):
    """What a call of a session comes to, in the words of the model."""
    try:
        result = call()
    except Collision as error:
        return f"Collision {error.row} {error.holder} {error.__cause__.key}"
    except Held as error:
        return f"Held {error.key}"
    except TooMany as error:
        return f"TooMany {error.many}"
    except RowError as error:
        return type(error).__name__
    if isinstance(result, Outcome):
        return (result.rows, result.ends, result.moved)
    return result


class Keeping(unittest.TestCase):
    """Promise 110."""

    def test_keys_and_rule(self):
        session = Session(3, 1, 2)
        self.assertEqual((session.stored, session.rule, len(session)), ((1, 2, 3), Abort(), 3))
        self.assertEqual((Session().stored, Session().rule, len(Session())), ((), Abort(), 0))
        self.assertEqual(Session(1, rule=None).rule, Abort())
        for rule in (Abort(), Fail(), Ignore(), Replace()):
            self.assertEqual(Session(1, rule=rule).rule, rule)
        self.assertEqual(Session(MOST, -MOST).stored, (-MOST, MOST))
        self.assertEqual(len(Session(*range(40))), 40)

    def test_they_are_given_by_methods_alone(self):
        with self.assertRaises(AttributeError):
            Session().stored = (1,)
        with self.assertRaises(AttributeError):
            Session().rule = Fail()

    def test_no_keys(self):
        for thing in NO_KEYS:
            for keys in ((thing,), (1, thing), (thing, 2)):
                with self.subTest(keys=keys), self.assertRaises(NotKeys):
                    Session(*keys)
        for keys in ((1, 1), (1, 2, 1), ((1, 2),)):
            with self.assertRaises(NotKeys):
                Session(*keys)

    def test_no_rule(self):
        for thing in NO_RULES:
            if thing is not None:
                with self.subTest(thing=thing), self.assertRaises(NotRule):
                    Session(1, rule=thing)
            session = Session(1, rule=Fail())
            with self.subTest(thing=thing), self.assertRaises(NotRule):
                session.obey(thing)
            self.assertEqual(session.rule, Fail())

    def test_the_first_exception_that_is_due(self):
        with self.assertRaises(NotKeys):
            Session(1, 1, rule="abort")
        with self.assertRaises(NotRule):
            Session(*range(41), rule="abort")
        for many in (41, 45):
            with self.assertRaises(TooMany) as caught:
                Session(*range(many))
            self.assertEqual((caught.exception.many, caught.exception.most), (many, 40))
        with self.assertRaises(NotKeys):
            Session(*range(41), 0)

    def test_obey(self):
        session = Session(1, 2)
        self.assertIsNone(session.obey(Replace()))
        self.assertEqual(session.rule, Replace())
        self.assertIsNone(session.obey(rule=Replace()))
        session.obey(Ignore())
        self.assertEqual((session.rule, session.stored), (Ignore(), (1, 2)))

    def test_in(self):
        session = Session(0, 1, 7)
        for key in (0, 1, 7):
            self.assertIs(key in session, True)
        for thing in ANYTHING + (2, -1, "0", (0,), MOST):
            with self.subTest(thing=thing):
                inside = isinstance(thing, int) and not isinstance(thing, bool) and thing in (0, 1, 7)
                self.assertIs(thing in session, inside)

    def test_equal(self):
        self.assertTrue(Session(1, 2) == Session(2, 1))
        self.assertFalse(Session(1, 2) != Session(2, 1))
        self.assertTrue(Session(1, rule=Abort()) == Session(1))
        session = Session(1)
        session.put(2)
        self.assertTrue(session == Session(1, 2))
        others = (Session(1), Session(1, 3), Session(1, 2, rule=Fail()), (1, 2), "Session(2 keys, abort)")
        for thing in tuple(thing for thing in ANYTHING) + others:
            with self.subTest(thing=thing):
                self.assertFalse(session == thing)
                self.assertFalse(thing == session)
                self.assertTrue(session != thing)

    def test_repr(self):
        self.assertEqual(repr(Session(1, 2, 3)), "Session(3 keys, abort)")
        self.assertEqual(repr(Session()), "Session(0 keys, abort)")
        for word in WORDS:
            self.assertEqual(repr(Session(5, rule=Rule.named(word))), f"Session(1 keys, {word})")

    def test_twin(self):
        session = Session(1, 2, rule=Fail())
        session.put(5)
        session.change(Formula(1, 10))
        other = session.twin()
        self.assertIsInstance(other, Session)
        self.assertEqual(other, session)
        self.assertEqual(states(other), [((11, 12, 15), "Fail()"), (1, 2, 5), (1, 2)])
        before = states(session)
        other.put(99)
        other.obey(Ignore())
        self.assertEqual(states(session), before)
        session.undo()
        session.undo()
        with self.assertRaises(NothingDone):
            session.undo()
        self.assertEqual(states(other), [((11, 12, 15, 99), "Ignore()"), (11, 12, 15), (1, 2, 5), (1, 2)])
        session.drop(1)
        self.assertEqual(states(other), [((11, 12, 15, 99), "Ignore()"), (11, 12, 15), (1, 2, 5), (1, 2)])


class Deeds(unittest.TestCase):
    """Promise 111."""

    def test_put_and_drop(self):
        session = Session(5)
        self.assertIsNone(session.put(9, 1))
        self.assertEqual(session.stored, (1, 5, 9))
        self.assertIsNone(session.drop(9, 5))
        self.assertEqual(session.stored, (1,))
        self.assertIsNone(session.drop(1))
        self.assertEqual(session.stored, ())

    def test_no_keys(self):
        for thing in NO_KEYS:
            for keys in ((thing,), (3, thing), (thing, 3), (1, thing)):
                session = Session(1, 2)
                session.put(8)
                before = states(session)
                with self.subTest(keys=keys), self.assertRaises(NotKeys):
                    session.put(*keys)
                with self.subTest(keys=keys), self.assertRaises(NotKeys):
                    session.drop(*keys)
                self.assertEqual(states(session), before)
        for keys in ((), (3, 3), (1, 1), (1, 3, 1), ((3,),)):
            with self.assertRaises(NotKeys):
                Session(1, 2).put(*keys)
            with self.assertRaises(NotKeys):
                Session(1, 2).drop(*keys)

    def test_held_in_the_order_passed(self):
        session = Session(1, 2, 3)
        for keys, key in (((2,), 2), ((9, 3, 1), 3), ((1, 9, 2), 1), ((*range(50, 100), 2, 1), 2)):
            with self.assertRaises(Held) as caught:
                session.put(*keys)
            self.assertEqual(caught.exception.key, key)
        self.assertEqual(states(session), [((1, 2, 3), "Abort()")])

    def test_forty_and_forty_one_keys(self):
        session = Session(*range(38))
        session.put(38, 39)
        self.assertEqual(len(session), 40)
        with self.assertRaises(TooMany) as caught:
            session.put(40)
        self.assertEqual((caught.exception.many, caught.exception.most), (41, 40))
        with self.assertRaises(TooMany) as caught:
            session.put(*range(100, 150))
        self.assertEqual((caught.exception.many, caught.exception.most), (90, 40))
        self.assertEqual(states(session), [(tuple(range(40)), "Abort()"), tuple(range(38))])
        self.assertEqual(len(session.change(Formula(1, 1), scan="down")), 40)

    def test_missing(self):
        session = Session(1, 2)
        for keys in ((3,), (1, 3), (3, 1, 2), (-1,)):
            with self.assertRaises(Missing):
                session.drop(*keys)
        self.assertEqual(states(session), [((1, 2), "Abort()")])

    def test_change(self):
        session = Session(1, 2, 3)
        outcome = session.change(STEP, scan="down")
        self.assertEqual(outcome, Abort()(Table(*line_of_rows(3)), (3, 2, 1)))
        self.assertEqual(session.stored, (2, 3, 4))
        session = Session(1, 2, 3, rule=Ignore())
        outcome = session.change(STEP)
        self.assertEqual((outcome.moved, outcome.held, session.stored), ((3,), (1, 2, 4), (1, 2, 4)))
        session = Session(1, 2, 3, rule=Replace())
        outcome = session.change(STEP)
        self.assertEqual((outcome.left, outcome.held, session.stored), ((1, 3), (2, 4), (2, 4)))
        session = Session(1, 2, 3)
        self.assertEqual(session.change(Formula(1, 10), low=2, high=2).moved, (2,))
        self.assertEqual(session.stored, (1, 3, 12))
        self.assertEqual(session.change(high=1, low=None, scan="far", formula=Formula(1, -1)).moved, (1,))
        self.assertEqual(Session().change(STEP), Outcome((), (), ()))
        with self.assertRaises(TypeError):
            session.change(STEP, "up")

    def test_wrong_arguments_of_change(self):
        session = Session(0, MOST, rule=Fail())
        for formula, scan, low, high, wrong in (
            (None, None, "", "", NotFormula), (1, "up", None, None, NotFormula), (STEP, None, "", "", NotScan),
            (STEP, "UP", None, None, NotScan), (STEP, "up", "", "", NotBound), (STEP, "up", None, 10 ** 15, NotBound),
            (STEP, "up", True, None, NotBound), (STEP, "up", None, None, TooLarge), (-STEP, "up", None, "5", NotBound),
        ):
            with self.subTest(wrong=wrong), self.assertRaises(wrong):
                session.change(formula, scan=scan, low=low, high=high)
        self.assertEqual(states(session), [((0, MOST), "Fail()")])
        self.assertEqual(session.change(STEP, high=SMALL).moved, (0,))


class Stopping(unittest.TestCase):
    """Promise 112."""

    def test_abort(self):
        session = Session(1, 2, 3)
        session.put(9)
        before = states(session)
        with self.assertRaises(Collision) as caught:
            session.change(STEP)
        self.assertEqual((caught.exception.row, caught.exception.holder), (1, 2))
        self.assertIsInstance(caught.exception.__cause__, Held)
        self.assertEqual(caught.exception.__cause__.key, 2)
        self.assertEqual(states(session), before)

    def test_fail(self):
        session = Session(1, 3, 8, rule=Fail())
        with self.assertRaises(Collision) as caught:
            session.change(Formula(1, 5))
        error = caught.exception
        self.assertEqual((error.row, error.holder), (3, 8))
        self.assertIsInstance(error.__cause__, Held)
        self.assertEqual(error.__cause__.key, 8)
        self.assertEqual(states(session), [((3, 6, 8), "Fail()"), (1, 3, 8)])

    def test_a_holder_that_has_moved_by_then(self):
        for rule, after in ((Abort(), (1, 3, 5)), (Fail(), (1, 3, 7))):
            session = Session(1, 3, 5, rule=rule)
            with self.assertRaises(Collision) as caught:
                # Row 5 moves to 7, and so does row 3 want to.
                session.change(Formula(0, 7), scan="down", low=2)
            error = caught.exception
            self.assertEqual((error.row, error.holder, error.__cause__.key), (3, 5, 7))
            self.assertEqual(session.stored, after)
        self.assertEqual(states(session), [((1, 3, 7), "Fail()"), (1, 3, 5)])

    def test_what_fail_has_moved_is_a_deed(self):
        session = Session(1, 2, 4, rule=Fail())
        with self.assertRaises(Collision):
            session.change(STEP, scan="far")
        self.assertEqual(states(session), [((1, 2, 4), "Fail()"), (1, 2, 4)])
        session.undo()
        session = Session(1, 2, 4, 7, rule=Fail())
        # With the farthest rows first each row finds its new key free, with the nearest ones first none does.
        self.assertEqual(session.change(Formula(2, 0), scan="far").held, (2, 4, 8, 14))
        with self.assertRaises(Collision) as caught:
            session.change(Formula(2, 0), scan="near")
        self.assertEqual((caught.exception.row, caught.exception.holder), (2, 4))
        session.undo()
        session.undo()
        self.assertEqual(session.stored, (1, 2, 4, 7))
        with self.assertRaises(NothingDone):
            session.undo()

    def test_undo(self):
        session = Session(1, 2)
        with self.assertRaises(NothingDone):
            session.undo()
        session.put(3)
        session.change(STEP, scan="down")
        session.drop(2)
        session.obey(Ignore())
        session.change(STEP)
        self.assertEqual(session.stored, (3, 5))
        for stored in ((3, 4), (2, 3, 4), (1, 2, 3), (1, 2)):
            self.assertIsNone(session.undo())
            self.assertEqual((session.stored, session.rule), (stored, Ignore()))
        with self.assertRaises(NothingDone):
            session.undo()
        self.assertEqual(session, Session(1, 2, rule=Ignore()))

    def test_an_undo_is_never_undone(self):
        session = Session()
        session.put(1)
        session.put(2)
        session.undo()
        session.put(3)
        session.undo()
        session.undo()
        self.assertEqual(session.stored, ())
        with self.assertRaises(NothingDone):
            session.undo()

    def test_a_change_that_moves_nothing_is_a_deed(self):
        session = Session(1, 2)
        session.change(Formula())
        session.change(STEP, low=5, high=4)
        self.assertEqual(states(session), [((1, 2), "Abort()"), (1, 2), (1, 2)])


class Attempts(unittest.TestCase):
    """Promise 113."""

    def test_several_deeds_are_one(self):
        session = Session(1)
        many = session.attempt(("put", (2, 3)), ("change", STEP, "down", None, None), ("drop", (4,)))
        self.assertEqual((many, session.stored), (3, (2, 3)))
        session.undo()
        self.assertEqual(session.stored, (1,))
        with self.assertRaises(NothingDone):
            session.undo()

    def test_an_attempt_without_deeds_is_one(self):
        session = Session(1)
        session.put(2)
        self.assertEqual(session.attempt(), 0)
        self.assertEqual(states(session), [((1, 2), "Abort()"), (1, 2), (1,)])

    def test_all_parts_of_a_change(self):
        session = Session(1, 2, 3, rule=Ignore())
        self.assertEqual(session.attempt(("change", STEP, "up", 2, 3)), 1)
        self.assertEqual(session.stored, (1, 2, 4))
        self.assertEqual(session.attempt(("change", Formula(1, -7), "down", None, 1)), 1)
        self.assertEqual(session.stored, (-6, 2, 4))

    def test_a_deed_that_cannot_be_done(self):
        for rule in (Abort(), Fail()):
            for deed, wrong in (
                (("put", (1,)), Held), (("put", ()), NotKeys), (("put", (1, 1)), NotKeys), (("put", ("1",)), NotKeys),
                (("put", tuple(range(50, 100))), TooMany), (("drop", (77,)), Missing), (("drop", ()), NotKeys),
                (("drop", (None,)), NotKeys), (("change", STEP, "up", None, None), Collision),
                (("change", None, None, "", ""), NotFormula), (("change", STEP, None, "", ""), NotScan),
                (("change", STEP, "up", None, ""), NotBound), (("change", Formula(SMALL), "up", None, None), TooLarge),
            ):
                session = Session(1, 2, rule=rule)
                session.put(3)
                before = states(session)
                for deeds in (
                    (deed,), (("put", (10 ** 20, -1)), deed), (("put", (10 ** 20,)), ("drop", (2,)), deed, ("put", (5,))),
                    (("change", Formula(1, 10), "up", 3, 3), ("put", (3, 10 ** 20)), deed),
                ):
                    if wrong is TooLarge and len(deeds) == 1 or wrong is Collision and ("drop", (2,)) in deeds:
                        continue
                    with self.subTest(deeds=deeds), self.assertRaises(wrong):
                        session.attempt(*deeds)
                    self.assertEqual(states(session), before)

    def test_fail_leaves_nothing_moved_behind_an_attempt(self):
        session = Session(1, 3, 5, rule=Fail())
        with self.assertRaises(Collision) as caught:
            session.attempt(("put", (9,)), ("change", Formula(0, 7), "down", 2, 6))
        error = caught.exception
        self.assertEqual((error.row, error.holder, error.__cause__.key), (3, 5, 7))
        self.assertEqual(states(session), [((1, 3, 5), "Fail()")])

    def test_undo_behind_an_attempt(self):
        session = Session(1)
        session.put(2)
        session.attempt(("drop", (1,)), ("put", (5,)))
        session.put(6)
        self.assertEqual(states(session), [((2, 5, 6), "Abort()"), (2, 5), (1, 2), (1,)])
        session.undo()
        session.undo()
        self.assertEqual(session.stored, (1, 2))

    def test_no_deed(self):
        for thing in NO_DEEDS:
            for deeds in (
                (thing,), (thing, ("put", (3,))), (("put", (3,)), thing), (("put", (1,)), thing),
                (("change", STEP, "up", None, None), thing), (("drop", ()), thing),
            ):
                session = Session(1, 2, rule=Fail())
                session.put(8)
                before = states(session)
                with self.subTest(thing=thing), self.assertRaises(NotDeed):
                    session.attempt(*deeds)
                self.assertEqual(states(session), before)

    def test_the_rule_stays(self):
        session = Session(1, 2, rule=Replace())
        session.attempt(("change", STEP, "up", None, None))
        self.assertEqual((session.stored, session.rule), ((2,), Replace()))
        session.undo()
        self.assertEqual((session.stored, session.rule), ((1, 2), Replace()))


class AnyOrder(unittest.TestCase):
    """Promises 110 to 113: deeds in any order against a model."""

    def test_against_the_model(self):
        chance = Random(113)
        for at in range(60):
            keys, word = chance.sample(range(12), chance.randrange(8)), WORDS[at % 4]
            session, model = Session(*keys, rule=Rule.named(word)), Model(keys, word)
            for _ in range(60):
                self.one_step(chance, session, model)
                self.assertEqual(session.stored, tuple(sorted(model.stored)))
                self.assertEqual(repr(session), f"Session({len(model.stored)} keys, {model.word})")
            self.assertEqual(states(session)[1:], [tuple(sorted(stored)) for stored in model.before[::-1]])

    def keys_for(self, chance):
        return tuple(chance.choices(range(-3, 14), k=chance.choice((0, 1, 1, 2, 3))))

    def numbers_for(self, chance):
        scan = chance.choice(("up", "down", "far", "near"))
        bounds = [chance.choice((None, None, chance.randrange(-5, 20))) for _ in range(2)]
        return chance.choice((1, 1, 1, 0, -1, 2)), chance.randrange(-3, 4), scan, *bounds

    def one_step(self, chance, session, model):
        step = chance.choice(("put", "drop", "change", "change", "undo", "obey", "attempt"))
        if step in ("put", "drop"):
            keys = self.keys_for(chance)
            self.assertEqual(told(lambda: getattr(session, step)(*keys)), getattr(model, step)(keys))
        elif step == "change":
            times, plus, scan, low, high = self.numbers_for(chance)
            formula = Formula(times, plus)
            self.assertEqual(
                told(lambda: session.change(formula, scan=scan, low=low, high=high)),
                model.change(times, plus, scan, low, high),
            )
        elif step == "undo":
            self.assertEqual(told(session.undo), model.undo())
        elif step == "obey":
            model.word = chance.choice(WORDS)
            session.obey(Rule.named(model.word))
        else:
            self.attempt(chance, session, model)

    def attempt(self, chance, session, model):
        deeds, stored, before = [], model.stored, list(model.before)
        result = None
        for _ in range(chance.randrange(4)):
            word = chance.choice(("put", "drop", "change"))
            if word == "change":
                times, plus, *rest = self.numbers_for(chance)
                deeds.append((word, Formula(times, plus), *rest))
                # Once a deed cannot be done, nothing more is.
                result = result or model.change(times, plus, *rest)
            else:
                deeds.append((word, self.keys_for(chance)))
                result = result or getattr(model, word)(deeds[-1][1])
            if isinstance(result, tuple):
                result = None
        model.before = before
        if result is None:
            model.before, result = before + [stored], len(deeds)
        else:
            model.stored = stored
        self.assertEqual(told(lambda: session.attempt(*deeds)), result)


if __name__ == "__main__":
    unittest.main()
