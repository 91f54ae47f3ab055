"""Tests of points 1 (f), 3 and 12: desks."""

import copy
import random
import unittest

from solidforms.desks import Desk
from solidforms.errors import InvalidSolid, NoBounds, NothingToUndo, TooMany
from solidforms.solids import is_solid
from solidforms.texts import format_solid, parse_solid
from solidforms.volumes import is_bounded, volume
from tests.samples import B, HALF, TEXTS, WRONG_VALUES, deep, nested, packed_solid, wide
from tests.space import number, told

NOTHING = ("cut", B, B)
SPACE = ("either", B, ("not", B))
CUBE = ("box", (0, 0, 0), (1, 1, 1))
GREAT = ("box", (-1, 0, 0), (2, 2, 3))
SLANT = ("half", 1, 1, 1, 1)
BESIDE = ("box", (1, 0, 0), (3, 2, 2))
NEXT = ("moved", (1, 0, 0), CUBE)


def deep_box(depth):
    """Return a solid of a depth that is the same as a cube."""
    found = CUBE
    for k in range(depth - 1):
        found = ("moved", (0, 0, 0), found) if k % 2 else ("turned", 0, found)
    return found


def many_boxes(many):
    """Return a solid that consists of so many solids, is not deep, and is the same as a cube."""
    return wide(many, CUBE) if many % 2 else ("turned", 0, wide(many - 1, CUBE))


class DeskCase(unittest.TestCase):

    def state_of(self, desk):
        """Return all that a desk shows, undone changes included."""
        solid, many = desk.solid(), len(desk)
        redone = 0
        steps = []
        while True:
            try:
                steps.append(desk.redo())
            except NothingToUndo:
                break
            redone += 1
        last = desk.solid()
        for _ in range(redone):
            desk.undo()
        self.assertEqual((desk.solid(), len(desk)), (solid, many))
        return solid, many, last, tuple(steps)

    def assert_unchanged(self, desk, error, action, *arguments):
        before = self.state_of(desk)
        with self.assertRaises(error):
            action(*arguments)
        self.assertEqual(self.state_of(desk), before)


class TestChanges(DeskCase):

    def test_a_new_desk(self):
        for solid in (B, CUBE, NOTHING, ("cut", GREAT, SLANT)):
            desk = Desk(solid)
            self.assertEqual(desk.solid(), solid)
            self.assertEqual(len(desk), 0)
            self.assertIs(type(len(desk)), int)

    def test_add(self):
        desk = Desk(CUBE)
        self.assertEqual(desk.add(NEXT), (1, 1))
        self.assertEqual(desk.solid(), ("either", CUBE, NEXT))
        self.assertEqual(desk.add(CUBE), (0, 1))
        self.assertEqual(desk.solid(), ("either", ("either", CUBE, NEXT), CUBE))
        self.assertEqual(desk.add(B), (5, 1))
        self.assertEqual(desk.add(NOTHING), (0, 1))
        self.assertEqual(desk.add(("both", GREAT, ("half", 0, 0, 1, 1))), (3, 1))
        self.assertEqual(desk.add(("both", GREAT, ("half", 1, 0, 0, 0))), (4, 1))
        self.assertEqual(len(desk), 6)

    def test_cut(self):
        desk = Desk(CUBE)
        self.assertEqual(desk.cut(SLANT), (-1, 6))
        self.assertEqual(desk.solid(), ("cut", CUBE, SLANT))
        self.assertEqual(desk.cut(NEXT), (0, 1))
        self.assertEqual(desk.solid(), ("cut", ("cut", CUBE, SLANT), NEXT))
        self.assertEqual(desk.cut(SPACE), (-5, 6))
        self.assertEqual(desk.cut(B), (0, 1))
        self.assertEqual(len(desk), 4)

    def test_cut_by_solids_without_bounds(self):
        for other, answer in ((HALF, (-6, 1)), (("not", HALF), (0, 1)), (("not", CUBE), (-5, 1)), (SPACE, (-6, 1)),
                              (("half", 0, 0, 1, 1), (-2, 1)), (("half", 0, 0, 2, 1), (-1, 1))):
            desk = Desk(B)
            self.assertEqual(desk.cut(other), answer)
            self.assertEqual(desk.solid(), ("cut", B, other))

    def test_undo_and_redo(self):
        desk = Desk(CUBE)
        states = [(desk.solid(), (1, 1))]
        for action, other in ((desk.add, B), (desk.cut, SLANT), (desk.add, GREAT), (desk.cut, NEXT)):
            action(other)
            states.append((desk.solid(), volume(desk.solid())))
        for _ in range(2):
            for place in range(4, 0, -1):
                (before, size), (after, left) = states[place], states[place - 1]
                self.assertEqual((desk.solid(), len(desk)), (before, place))
                self.assertEqual(desk.undo(), told(number(left) - number(size)))
                self.assertEqual(desk.solid(), after)
            self.assert_unchanged(desk, NothingToUndo, desk.undo)
            for place in range(4):
                (before, size), (after, more) = states[place], states[place + 1]
                self.assertEqual((desk.solid(), len(desk)), (before, place))
                self.assertEqual(desk.redo(), told(number(more) - number(size)))
                self.assertEqual(desk.solid(), after)
            self.assert_unchanged(desk, NothingToUndo, desk.redo)

    def test_what_they_return(self):
        desk = Desk(CUBE)
        self.assertEqual(desk.cut(SLANT), (-1, 6))
        self.assertEqual(desk.undo(), (1, 6))
        self.assertEqual(desk.redo(), (-1, 6))
        self.assertEqual(desk.add(BESIDE), (8, 1))
        self.assertEqual(desk.undo(), (-8, 1))
        for answer in (desk.undo(), desk.redo(), desk.redo(), desk.add(CUBE), desk.cut(B)):
            self.assertIs(type(answer), tuple)
            self.assertEqual({type(x) for x in answer}, {int})

    def test_nothing_to_undo(self):
        desk = Desk(B)
        self.assert_unchanged(desk, NothingToUndo, desk.undo)
        self.assert_unchanged(desk, NothingToUndo, desk.redo)
        desk.add(CUBE)
        self.assert_unchanged(desk, NothingToUndo, desk.redo)
        desk.undo()
        self.assert_unchanged(desk, NothingToUndo, desk.undo)
        desk.redo()
        self.assert_unchanged(desk, NothingToUndo, desk.redo)

    def test_a_new_change_after_an_undo(self):
        for action in ("add", "cut"):
            desk = Desk(B)
            desk.add(CUBE)
            desk.add(GREAT)
            desk.undo()
            desk.undo()
            getattr(desk, action)(NEXT)
            self.assert_unchanged(desk, NothingToUndo, desk.redo)
            self.assertEqual(len(desk), 1)
            desk.undo()
            self.assertEqual(desk.solid(), B)
            desk.redo()
            self.assertEqual(desk.solid()[2], NEXT)

    def test_a_change_that_raises_keeps_what_was_undone(self):
        desk = Desk(B)
        desk.add(CUBE)
        desk.cut(SLANT)
        desk.undo()
        for action, other, error in (
            (desk.add, None, InvalidSolid), (desk.cut, ("half", 0, 0, 0, 1), InvalidSolid), (desk.add, HALF, NoBounds),
            (desk.cut, deep(12), TooMany), (desk.add, deep_box(12), TooMany), (desk.add, deep(12), NoBounds),
        ):
            self.assert_unchanged(desk, error, action, other)
        desk.redo()
        self.assertEqual(desk.solid(), ("cut", ("either", B, CUBE), SLANT))


class TestErrors(DeskCase):

    def test_what_is_not_a_solid(self):
        desk = Desk(B)
        for value in (*WRONG_VALUES, deep(13), wide(41), nested(lambda x: [x], 30, HALF), ("turned", 48, B)):
            with self.subTest(repr(value)[:60]):
                with self.assertRaises(InvalidSolid):
                    Desk(value)
                self.assert_unchanged(desk, InvalidSolid, desk.add, value)
                self.assert_unchanged(desk, InvalidSolid, desk.cut, value)

    def test_no_bounds(self):
        desk = Desk(B)
        for solid in (HALF, SPACE, ("not", B), ("either", B, SLANT), ("not", NOTHING)):
            with self.assertRaises(NoBounds):
                Desk(solid)
            self.assert_unchanged(desk, NoBounds, desk.add, solid)
            Desk(B).cut(solid)

    def test_too_deep(self):
        # The deepest solid that can be joined to another one is 11 deep.
        for action in ("add", "cut"):
            for first, second, error in ((1, 11, None), (1, 12, TooMany), (11, 1, None), (12, 1, TooMany), (11, 11, None)):
                desk = Desk(deep_box(first))
                self.assertIs(is_solid(deep_box(second)), True)
                if error is None:
                    self.assertEqual(getattr(desk, action)(deep_box(second)), (0, 1) if action == "add" else (-1, 1))
                else:
                    self.assert_unchanged(desk, error, getattr(desk, action), deep_box(second))

    def test_many_changes_until_it_is_too_deep(self):
        desk = Desk(B)
        for k in range(11):
            desk.add(CUBE) if k % 2 else desk.cut(HALF)
            self.assertEqual(len(desk), k + 1)
        self.assert_unchanged(desk, TooMany, desk.add, CUBE)
        self.assert_unchanged(desk, TooMany, desk.cut, HALF)
        self.assert_unchanged(desk, NoBounds, desk.add, HALF)
        desk.undo()
        desk.cut(HALF)
        self.assertEqual(len(desk), 11)

    def test_too_many_solids(self):
        for many, more, error in ((20, 19, None), (20, 20, TooMany), (39, 1, TooMany), (38, 1, None), (1, 38, None), (1, 39, TooMany)):
            for action in ("add", "cut"):
                desk = Desk(many_boxes(many))
                self.assertIs(is_solid(many_boxes(more)), True)
                if error is None:
                    getattr(desk, action)(many_boxes(more))
                    self.assertEqual(len(desk), 1)
                else:
                    self.assert_unchanged(desk, error, getattr(desk, action), many_boxes(more))

    def test_too_many_planes(self):
        two = ("either", CUBE, ("moved", (2, 2, 2), CUBE))
        desk = Desk(two)
        desk.add(("moved", (1, 1, 1), ("moved", (1, 1, 1), CUBE)))
        self.assert_unchanged(desk, TooMany, desk.add, ("moved", (0, 0, 1), ("moved", (0, 0, 3), CUBE)))
        self.assert_unchanged(desk, TooMany, desk.cut, SLANT)
        self.assert_unchanged(desk, NoBounds, desk.add, SLANT)
        self.assertEqual(desk.cut(("half", 3, 0, 0, 9)), (-2, 1))

    def test_no_bounds_comes_ahead_of_too_many(self):
        desk = Desk(deep_box(12))
        self.assert_unchanged(desk, NoBounds, desk.add, HALF)
        self.assert_unchanged(desk, TooMany, desk.add, B)
        self.assert_unchanged(desk, TooMany, desk.cut, HALF)
        self.assert_unchanged(desk, InvalidSolid, desk.add, None)
        self.assert_unchanged(desk, InvalidSolid, desk.cut, None)


class TestEqual(DeskCase):

    def assert_equal(self, first, second):
        self.assertIs(first == second, True)
        self.assertIs(second == first, True)
        self.assertIs(first != second, False)

    def assert_unlike(self, first, second):
        self.assertIs(first == second, False)
        self.assertIs(second == first, False)
        self.assertIs(first != second, True)

    def test_equal_desks(self):
        first, second = Desk(B), Desk(parse_solid(format_solid(B)))
        self.assert_equal(first, first)
        self.assert_equal(first, second)
        for action, other in (("add", CUBE), ("cut", SLANT), ("add", NEXT)):
            getattr(first, action)(other)
            self.assert_unlike(first, second)
            getattr(second, action)(other)
            self.assert_equal(first, second)

    def test_undone_changes_are_left_aside(self):
        first, second = Desk(B), Desk(B)
        first.add(CUBE)
        first.undo()
        self.assert_equal(first, second)
        second.cut(SLANT)
        self.assert_unlike(first, second)
        second.undo()
        self.assert_equal(first, second)
        first.redo()
        second.add(CUBE)
        self.assert_equal(first, second)
        second.add(GREAT)
        second.undo()
        first.cut(SLANT)
        first.undo()
        self.assert_equal(first, second)
        second.undo()
        self.assert_unlike(first, second)

    def test_unlike_desks(self):
        first, second = Desk(B), Desk(CUBE)
        self.assert_unlike(first, second)
        # The same solid, but another tuple.
        self.assert_unlike(Desk(B), Desk(("moved", (0, 0, 0), B)))
        # The same tuple now, but other ones before.
        joined = Desk(("either", B, CUBE))
        first.add(CUBE)
        self.assertEqual(first.solid(), joined.solid())
        self.assert_unlike(first, joined)
        joined.cut(SLANT)
        first.cut(SLANT)
        self.assertEqual(first.solid(), joined.solid())
        self.assert_unlike(first, joined)
        # The same solids were added in another order.
        one, two = Desk(B), Desk(B)
        one.add(CUBE)
        one.add(NEXT)
        two.add(NEXT)
        two.add(CUBE)
        self.assert_unlike(one, two)

    def test_other_values(self):
        desk = Desk(B)
        for value in (*WRONG_VALUES, B, (B,), [B], (B, 0), "desk", len(desk), volume(B)):
            self.assert_unlike(desk, value)
        self.assertFalse(desk == None)  # noqa: E711
        self.assertNotIn(desk, [B, None, Desk(CUBE)])
        self.assertIn(desk, [B, None, Desk(B)])


class TestAgainstAModel(DeskCase):

    def test_random_changes(self):
        chance = random.Random(121)
        counts = {}
        for _ in range(12):
            begin = ("both", ("box", (-1, -1, -1), (1, 1, 1)), packed_solid(chance, 2, 1))
            desk = Desk(begin)
            done, undone = [begin], []
            for _ in range(25):
                word = chance.choice(("add", "cut", "cut", "undo", "undo", "redo"))
                answer = self.changed(chance, desk, word, done, undone)
                counts[word, answer] = counts.get((word, answer), 0) + 1
                self.assertEqual(desk.solid(), done[-1])
                self.assertEqual(len(desk), len(done) - 1)
        self.assertGreater(min(counts.values()), 4, counts)
        self.assertEqual(len(counts), 9, counts)

    def changed(self, chance, desk, word, done, undone):
        """Perform a change on the desk and in the lists; return what was raised, if anything."""
        before = number(volume(done[-1]))
        if word in ("undo", "redo"):
            left, more = (done[1:], undone) if word == "undo" else (undone, done)
            if not left:
                self.assert_unchanged(desk, NothingToUndo, getattr(desk, word))
                return NothingToUndo
            more.append((done if word == "undo" else undone).pop())
            self.assertEqual(number(getattr(desk, word)()), number(volume(done[-1])) - before)
            return None
        other = packed_solid(chance, 3, 2)
        if word == "add" and chance.random() < 0.7:
            other = ("both", ("box", (-1, -1, -1), (1, 1, 1)), other)
        joined = ("either" if word == "add" else "cut", done[-1], other)
        error = NoBounds if word == "add" and not is_bounded(other) else None if is_solid(joined) else TooMany
        if error is not None:
            self.assert_unchanged(desk, error, getattr(desk, word), other)
            return error
        done.append(joined)
        undone.clear()
        self.assertEqual(number(getattr(desk, word)(other)), number(volume(joined)) - before)
        return None

    def test_arguments_stay(self):
        for solid, _ in TEXTS:
            kept = copy.deepcopy(solid)
            desk = Desk(B)
            if is_solid(("cut", B, solid)):
                desk.cut(solid)
                desk.undo()
            self.assertEqual(solid, kept)
            self.assertEqual(desk.solid(), B)


if __name__ == "__main__":
    unittest.main()
