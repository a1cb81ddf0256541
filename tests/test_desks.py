import unittest

import samples
import test_deeds
from flagfloors.deeds import done
from flagfloors.desks import Desk
from flagfloors.errors import (
    FlagError, NotBall, NotDeed, NotDone, NotFolding, NotOrder, NotPattern, NotText, NothingLeft,
    TooMany,
)

ONE = ((0,), (0,), (0,), (12,), (12,))

# Deeds, some of which are refused by some patterns.
DEEDS = (
    ("recipe", "dual"), ("recipe", "middle"), ("tile", 0, 12), ("corner", 0, 24), ("tile", 1, 36),
    ("coarsest",), ("least",), ("oriented",), ("cover", 2, 0), ("cover", 2, 3), ("cover", 1, 0),
    ("image", (0,)), ("image", (0, 0)), ("image", (0, 1)), ("body",), ("recipe", "none"), ("none",),
    ("recipe", "cut"), ("tile", 0, 7), None,
)


class Model:
    """What a desk should do, by the patterns and deeds from its begin on."""

    def __init__(self, pattern, most):
        self.patterns = [pattern]
        self.deeds = []
        self.at = 0
        self.most = most

    def do(self, deed):
        after = done(self.patterns[self.at], deed)
        self.patterns = self.patterns[:self.at + 1] + [after]
        self.deeds = self.deeds[:self.at] + [deed]
        self.at += 1
        if self.at > self.most:
            self.patterns = self.patterns[1:]
            self.deeds = self.deeds[1:]
            self.at -= 1

    def step(self, by):
        if not 0 <= self.at + by <= len(self.deeds):
            raise NothingLeft("model")
        self.at += by

    def shown(self):
        return (self.patterns[self.at], tuple(self.deeds[:self.at]), tuple(self.deeds[self.at:]))

    def twin(self):
        other = Model(None, self.most)
        other.patterns, other.deeds, other.at = list(self.patterns), list(self.deeds), self.at
        return other


def shown(desk):
    return (desk.pattern, desk.past(), desk.ahead())


def numbers(seed, many):
    """A row of numbers that jumps about, always the same for a seed."""
    found = []
    for _ in range(many):
        seed = (seed * 1103515245 + 12345) % 2 ** 31
        found.append(seed // 65536)
    return found


def outcome(call, *given):
    """What a call returns, or the class of its error."""
    try:
        return call(*given)
    except FlagError as error:
        return error.__class__


class LongRows(unittest.TestCase):
    def test_against_the_model(self):
        told = set()
        for seed in range(60):
            most = (1, 2, 3, 5, 20)[seed % 5]
            pattern = (samples.CUBE, ONE, samples.SWAP_0)[seed % 3]
            desk, model = Desk(pattern, most=most), Model(pattern, most)
            for number in numbers(seed, 60):
                word = ("do", "do", "undo", "redo", "run", "twin", "undo")[number % 7]
                told.add((word, self.one_step(word, number // 7, desk, model)))
                self.assertEqual(shown(desk), model.shown())
                self.assertLessEqual(len(desk.past()), most)
        self.assertLessEqual(
            {("do", True), ("do", False), ("undo", True), ("undo", False), ("redo", True),
             ("redo", False), ("run", True), ("run", False), ("twin", True)}, told,
        )

    def one_step(self, word, number, desk, model):
        """Do the same with a desk and its model; tell whether it was done without an error."""
        if word == "do":
            deed = DEEDS[number % len(DEEDS)]
            found = outcome(desk.do, deed)
            self.assertEqual(found, outcome(model.do, deed))
        elif word == "run":
            deeds = [DEEDS[(number + 7 * k * k) % len(DEEDS)] for k in range(number % 4)]
            found = self.run_both(desk, model, deeds)
        elif word == "twin":
            before = model.shown()
            other, copied = desk.twin(), model.twin()
            self.assertEqual(shown(other), copied.shown())
            for k in range(5):
                self.one_step(("undo", "do", "redo", "do", "undo")[k], number + k, other, copied)
                self.assertEqual(shown(other), copied.shown())
            self.assertEqual(shown(desk), before)
            found = None
        else:
            found = outcome(desk.undo if word == "undo" else desk.redo)
            self.assertEqual(found, outcome(model.step, -1 if word == "undo" else 1))
        return found is None or isinstance(found, int)

    def run_both(self, desk, model, deeds):
        """Run deeds, and do them with a twin of the model, which is kept if all are done."""
        trial = model.twin()
        for place, deed in enumerate(deeds):
            try:
                trial.do(deed)
            except FlagError as error:
                with self.assertRaises(NotDone) as caught:
                    desk.run(deeds)
                self.assertEqual(caught.exception.place, place)
                self.assertIs(caught.exception.__cause__.__class__, error.__class__)
                self.assertEqual(vars(caught.exception.__cause__), vars(error))
                return NotDone
        self.assertEqual(desk.run(deeds), len(deeds))
        model.patterns, model.deeds, model.at = trial.patterns, trial.deeds, trial.at
        return len(deeds)


class Created(unittest.TestCase):
    def test_a_pattern_and_nothing_done(self):
        for pattern in test_deeds.PATTERNS:
            desk = Desk(pattern)
            self.assertIs(desk.pattern, pattern)
            self.assertEqual(desk.past(), ())
            self.assertEqual(desk.ahead(), ())
            self.assertRaises(NothingLeft, desk.undo)
            self.assertRaises(NothingLeft, desk.redo)

    def test_no_pattern(self):
        for value, rule, place in (
            (None, "form", -1), ([], "form", -1), (((0,), (0,), (0,), (4,), (0,)), "corner", 0),
            (((1,), (0,), (0,), (4,), (3,)), "change", 0), ([[0], [0], [0], [4], [3]], "form", -1),
            (((0, 1), (0, 1), (0, 1), (1, 1), (1, 1)), "whole", 1),
        ):
            for most in (20, 1, 101, 10 ** 9):
                with self.assertRaises(NotPattern) as caught:
                    Desk(value, most=most)
                self.assertEqual((caught.exception.rule, caught.exception.place), (rule, place))

    def test_most_kept(self):
        for most in (101, 102, 10 ** 9):
            with self.assertRaises(TooMany) as caught:
                Desk(samples.CUBE, most=most)
            self.assertEqual(caught.exception.limit, 100)
        for most in (1, 2, 99, 100):
            desk = Desk(samples.CUBE, most=most)
            for k in range(most + 3):
                desk.do(("tile", 0, k + 1))
            self.assertEqual(desk.past(), tuple(("tile", 0, k + 1) for k in range(3, most + 3)))
            for _ in range(most):
                desk.undo()
            self.assertEqual(desk.pattern[3], (3,))
            self.assertRaises(NothingLeft, desk.undo)
            self.assertEqual(len(desk.ahead()), most)

    def test_20_by_itself(self):
        desk = Desk(samples.CUBE)
        for k in range(25):
            desk.do(("tile", 0, k + 1))
        self.assertEqual(len(desk.past()), 20)
        self.assertEqual(desk.past()[0], ("tile", 0, 6))

    def test_most_by_keyword_alone(self):
        self.assertRaises(TypeError, Desk, samples.CUBE, 5)


class DoUndoRedo(unittest.TestCase):
    def test_by_hand(self):
        desk = Desk(samples.CUBE)
        self.assertIsNone(desk.do(("recipe", "dual")))
        self.assertEqual(desk.pattern, ((0,), (0,), (0,), (3,), (4,)))
        self.assertIsNone(desk.do(("tile", 0, 5)))
        self.assertEqual(desk.past(), (("recipe", "dual"), ("tile", 0, 5)))
        self.assertIsNone(desk.undo())
        self.assertEqual(shown(desk), (((0,), (0,), (0,), (3,), (4,)), (("recipe", "dual"),),
                                       (("tile", 0, 5),)))
        self.assertIsNone(desk.undo())
        self.assertEqual(shown(desk), (samples.CUBE, (), (("recipe", "dual"), ("tile", 0, 5))))
        self.assertRaises(NothingLeft, desk.undo)
        self.assertIsNone(desk.redo())
        self.assertEqual(shown(desk), (((0,), (0,), (0,), (3,), (4,)), (("recipe", "dual"),),
                                       (("tile", 0, 5),)))
        desk.do(("corner", 0, 3))
        self.assertEqual(shown(desk), (((0,), (0,), (0,), (3,), (3,)),
                                       (("recipe", "dual"), ("corner", 0, 3)), ()))
        self.assertRaises(NothingLeft, desk.redo)

    def test_a_refused_deed_changes_nothing(self):
        desk = Desk(samples.SWAP_0)
        desk.run([("tile", 0, 8), ("corner", 1, 6), ("least",)])
        desk.undo()
        before = shown(desk)
        for deed, error in (
            (("recipe", "none"), NotText), (("recipe", "part part"), TooMany), (("tile", 0, 0), NotOrder),
            (("image", (1,)), NotFolding), (("image", (1, 1)), NotFolding), (("cover", 7, 0), TooMany),
            (("body",), NotBall), (("none",), NotDeed), (None, NotDeed), (["least"], NotDeed),
            (("cover", 1, 1), NotDeed),
        ):
            self.assertRaises(error, desk.do, deed)
            self.assertEqual(shown(desk), before)
        desk.redo()
        self.assertEqual(desk.ahead(), ())

    def test_what_was_told_stays(self):
        desk = Desk(samples.CUBE)
        desk.do(("least",))
        desk.do(("tile", 0, 5))
        past, ahead, pattern = desk.past(), desk.ahead(), desk.pattern
        desk.undo()
        told = desk.ahead()
        desk.do(("tile", 0, 6))
        self.assertEqual(past, (("least",), ("tile", 0, 5)))
        self.assertEqual((ahead, told), ((), (("tile", 0, 5),)))
        self.assertEqual(pattern, ((0,), (0,), (0,), (5,), (3,)))
        self.assertEqual([type(row) for row in (past, ahead, told)], [tuple] * 3)


class Run(unittest.TestCase):
    def desk(self):
        desk = Desk(samples.CUBE, most=4)
        for order in (5, 6, 7):
            desk.do(("tile", 0, order))
        desk.undo()
        return desk

    def test_all(self):
        for deeds in ([("least",)] * 3, (("recipe", "dual"), ("tile", 0, 9))):
            desk = self.desk()
            self.assertEqual(desk.run(deeds), len(deeds))
            self.assertEqual(desk.past()[-len(deeds):], tuple(deeds))
            self.assertEqual(desk.ahead(), ())
            self.assertEqual(len(desk.past()), 4)

    def test_more_than_are_kept(self):
        desk = self.desk()
        self.assertEqual(desk.run([("tile", 0, k) for k in range(1, 10)]), 9)
        self.assertEqual(desk.past(), tuple(("tile", 0, k) for k in range(6, 10)))
        for _ in range(4):
            desk.undo()
        self.assertEqual(desk.pattern[3], (5,))
        self.assertRaises(NothingLeft, desk.undo)

    def test_an_empty_row(self):
        for deeds in ([], ()):
            desk = self.desk()
            before = shown(desk)
            self.assertEqual(desk.run(deeds), 0)
            self.assertEqual(shown(desk), before)
            desk.redo()
            self.assertEqual(desk.pattern[3], (7,))

    def test_a_wrong_deed(self):
        for wrong, error in ((("none",), NotDeed), (("tile", 0, 0), NotOrder), (None, NotDeed),
                             (("recipe", "x"), NotText), (("cover", 1, 9), NotDeed),
                             (("cover", 10, 0), TooMany)):
            for place in (0, 1, 3):
                desk = self.desk()
                before = shown(desk)
                deeds = [("recipe", "dual")] * place + [wrong, ("least",), ("none",)]
                with self.assertRaises(NotDone) as caught:
                    desk.run(deeds)
                self.assertEqual(caught.exception.place, place)
                self.assertIs(caught.exception.__cause__.__class__, error)
                self.assertEqual(shown(desk), before)
                desk.redo()
                self.assertEqual(desk.pattern[3], (7,))
                for order in (6, 5, 4):
                    desk.undo()
                    self.assertEqual(desk.pattern[3], (order,))
                self.assertRaises(NothingLeft, desk.undo)

    def test_the_cause_has_its_attributes(self):
        with self.assertRaises(NotDone) as caught:
            Desk(samples.CUBE).run((("least",), ("recipe", "dual no")))
        self.assertEqual(caught.exception.place, 1)
        self.assertEqual(caught.exception.__cause__.place, 5)

    def test_the_deeds_stay_as_they_are(self):
        deeds = [("least",), ("recipe", "dual")]
        kept = list(deeds)
        desk = Desk(samples.CUBE)
        desk.run(deeds)
        self.assertEqual(deeds, kept)
        deeds.append(("none",))
        self.assertEqual(desk.past(), tuple(kept))


class Twins(unittest.TestCase):
    def desk(self):
        desk = Desk(samples.CUBE, most=3)
        for order in (5, 6, 7, 8):
            desk.do(("tile", 0, order))
        desk.undo()
        return desk

    def change(self, desk):
        desk.redo()
        desk.undo()
        desk.undo()
        desk.do(("recipe", "dual"))
        desk.run([("least",), ("corner", 0, 9)])

    def ways(self, desk):
        """Twins that are made in each way."""
        with desk.trial() as other:
            yield other
        yield desk.twin()
        yield desk.twin().twin()
        with desk.twin().trial() as other:
            yield other.twin()

    def test_as_the_desk(self):
        desk = self.desk()
        for other in self.ways(desk):
            self.assertIsInstance(other, Desk)
            self.assertIsNot(other, desk)
            self.assertEqual(shown(other), shown(desk))

    def test_neither_changes_with_the_other_one(self):
        desk = self.desk()
        before = shown(desk)
        for other in self.ways(desk):
            self.change(other)
            self.assertEqual(shown(desk), before)
            self.assertNotEqual(shown(other), before)
        for way in range(4):
            desk = self.desk()
            other = list(self.ways(desk))[way]
            self.change(desk)
            self.assertEqual(shown(other), before)
            other.redo()
            self.assertEqual(other.pattern[3], (8,))

    def test_as_many_deeds_kept(self):
        for other in self.ways(self.desk()):
            for order in (1, 2, 3, 4, 5):
                other.do(("corner", 0, order))
            self.assertEqual(other.past(), tuple(("corner", 0, order) for order in (3, 4, 5)))

    def test_a_trial_lets_errors_pass(self):
        desk = self.desk()
        before = shown(desk)
        with self.assertRaises(NotOrder):
            with desk.trial() as other:
                other.do(("tile", 0, 9))
                other.do(("tile", 0, 0))
        self.assertEqual(other.past()[-1], ("tile", 0, 9))
        self.assertEqual(shown(desk), before)
        with self.assertRaises(KeyError):
            with desk.trial() as other:
                raise KeyError("passes")

    def test_one_trial_behind_another(self):
        desk = self.desk()
        for _ in range(2):
            with desk.trial() as other:
                with other.trial() as further:
                    further.do(("least",))
                self.assertEqual(shown(other), shown(desk))
                other.do(("recipe", "dual"))
        self.assertEqual(shown(desk), shown(self.desk()))
