"""Promise 19: square tables, choices and their papers."""

import random
import unittest
from itertools import permutations, product

from graftbook.choices import best_choice, choice_holds, choice_paper
from graftbook.errors import InvalidTable
from tests.samples import HUGE, NOTHINGS, nested, spoilt

TABLE = ((4, 1, 3), (2, 0, 5), (3, 2, 2))
NO_TABLES = (
    (), ((),), ((1, 2),), ((1,), (2,)), ((1, 2), (3,)), ((1, 2), (3, 4, 5)), ((-1,),), ((True,),), ((None,),),
    (("1",),), ([1],), [(1,)], ((1, 2), [3, 4]), ((1, 2), (3, -4)), ((1, 2), (3, False)), ((1, 2), 3),
    tuple((0,) * 6 for _ in range(6)), ((1, 2, 3), (4, 5, 6)), 1, "a", None, True, (((1,),),), (1,),
)


def slow_sums(table):
    """All choices, ascending, with their sums."""
    choices = sorted(permutations(range(len(table))))
    return [(sum(row[k] for row, k in zip(table, choice)), choice) for choice in choices]


def slow_paper_holds(table, total, paper):
    """The words of the document, for a pair of tuples of as many integers."""
    u, v = paper
    for i, j in product(range(len(table)), repeat=2):
        if u[i] + v[j] > table[i][j]:
            return False
    return sum(u + v) == total


def random_tables(seed, many, most):
    rng = random.Random(seed)
    for k in range(many):
        size = 1 + k % 5
        yield tuple(tuple(rng.randint(0, most) for _ in range(size)) for _ in range(size))


def changed(paper):
    """Papers that differ from one in one number."""
    for k, part in enumerate(paper):
        for place, number in enumerate(part):
            for by in (-HUGE, -1, 1, 2, HUGE):
                other = part[:place] + (number + by,) + part[place + 1:]
                yield paper[:k] + (other,) + paper[k + 1:]


class BestChoice(unittest.TestCase):
    def test_ordinary(self):
        self.assertEqual(best_choice(TABLE), (1, 0, 2))
        self.assertEqual(best_choice(((7,),)), (0,))
        self.assertEqual(best_choice(((1, 2), (0, 5))), (1, 0))

    def test_the_first_of_several(self):
        for size in range(1, 6):
            for entry in (0, 3, 99999999):
                self.assertEqual(best_choice(((entry,) * size,) * size), tuple(range(size)))
        self.assertEqual(best_choice(((1, 0, 0), (1, 0, 0), (0, 0, 0))), (1, 2, 0))

    def test_by_definition(self):
        for most in (1, 3, 99999999):
            for table in random_tables(71, 200, most):
                self.assertEqual(best_choice(table), min(slow_sums(table))[1])

    def test_entries_of_any_size(self):
        self.assertEqual(best_choice(((HUGE, 0), (0, HUGE))), (1, 0))


class Paper(unittest.TestCase):
    def test_each_made_one_is_one(self):
        for most in (0, 1, 3, 99999999):
            for table in random_tables(72, 200, most):
                least, best = min(slow_sums(table))
                paper = choice_paper(table)
                self.assertEqual([len(part) for part in paper], [len(table)] * 2)
                self.assertTrue(slow_paper_holds(table, least, paper))
                self.assertIs(choice_holds(table, best, paper), True)
                self.assertEqual(choice_paper(table), paper)

    def test_one_row(self):
        self.assertEqual(sum(sum(part) for part in choice_paper(((7,),))), 7)

    def test_just_the_best_choices_hold(self):
        for table in random_tables(73, 60, 2):
            paper = choice_paper(table)
            least = min(slow_sums(table))[0]
            for total, choice in slow_sums(table):
                self.assertIs(choice_holds(table, choice, paper), total == least)

    def test_changed_in_one_place(self):
        held = 0
        for table in random_tables(74, 100, 4):
            best = best_choice(table)
            total = sum(row[k] for row, k in zip(table, best))
            u, v = choice_paper(table)
            moved = (tuple(k + 1 for k in u), tuple(k - 1 for k in v))
            for paper in list(changed((u, v))) + [moved, (v, u)]:
                right = slow_paper_holds(table, total, paper)
                held += right
                self.assertIs(choice_holds(table, best, paper), right)
        self.assertGreater(held, 50)

    def test_sums_that_fall_short(self):
        # A bound that is no sum of a choice shows nothing, nor do high numbers elsewhere.
        self.assertIs(choice_holds(((3,),), (0,), ((2,), (0,))), False)
        self.assertIs(choice_holds(((3,),), (0,), ((4,), (-1,))), True)
        self.assertIs(choice_holds(((3,),), (0,), ((HUGE,), (3 - HUGE,))), True)
        self.assertIs(choice_holds(((3,),), (0,), ((4,), (0,))), False)

    def test_no_choices(self):
        paper = choice_paper(TABLE)
        self.assertIs(choice_holds(TABLE, (1, 0, 2), paper), True)
        for value in NOTHINGS + (
                (), (1, 0), (1, 0, 2, 2), (1, 1, 2), (1, 0, 3), (1, 0, -1), (True, 0, 2), (1, False, 2), [1, 0, 2],
                ((1, 0, 2),), (1, 0, HUGE), (1, 0, None), "102", (0, 1, 2), (1, 2, 0)):
            self.assertIs(choice_holds(TABLE, value, paper), False, value)
        for value in spoilt((1, 0, 2)):
            self.assertIs(choice_holds(TABLE, value, paper), False, value)

    def test_no_papers(self):
        paper = choice_paper(TABLE)
        for value in NOTHINGS + (
                paper[:1], paper + ((),), list(paper), (list(paper[0]), paper[1]), (paper[0], paper[1] + (0,)),
                (paper[0][1:], paper[1]), (paper[0] + (0,), paper[1]), ((), ()), nested(60), {}):
            self.assertIs(choice_holds(TABLE, (1, 0, 2), value), False, value)
        for value in spoilt(paper):
            self.assertIs(choice_holds(TABLE, (1, 0, 2), value), False, value)
        self.assertIs(choice_holds(((1,),), (0,), ((1,), (0,))), True)
        self.assertIs(choice_holds(((1,),), (0,), ((True,), (0,))), False)
        self.assertIs(choice_holds(((1,),), (0,), ((1,), (False,))), False)
        self.assertIs(choice_holds(((1,),), (False,), ((1,), (0,))), False)


class Errors(unittest.TestCase):
    def test_no_tables(self):
        calls = (best_choice, choice_paper, lambda table: choice_holds(table, None, None),
                 lambda table: choice_holds(table, (0,), ((0,), (0,))))
        for value in NO_TABLES + NOTHINGS + tuple(spoilt(TABLE)):
            for call in calls:
                with self.assertRaises(InvalidTable) as caught:
                    call(value)
                self.assertIs(caught.exception.value, value)
