"""Least assignments, on which the papers of promises 19 and 21 rest."""

import random
import unittest
from itertools import permutations

from graftbook.assignments import bounds_of, least_assignment


class Assignments(unittest.TestCase):
    def test_by_definition(self):
        rng = random.Random(161)
        for _ in range(1000):
            height = rng.randint(0, 4)
            width = rng.randint(height, 6)
            table = [[rng.randint(-9, 9) for _ in range(width)] for _ in range(height)]
            least = min(sum(row[k] for row, k in zip(table, columns)) for columns in permutations(range(width), height))
            owners = least_assignment(table)
            self.assertEqual(sorted(owners.values()), list(range(height)))
            self.assertEqual(sum(table[i][j] for j, i in owners.items()), least)
            u, v = bounds_of(table, width, owners)
            self.assertEqual((len(u), len(v), sum(u) + sum(v)), (height, width, least))
            self.assertTrue(all(u[i] + v[j] <= table[i][j] for i in range(height) for j in range(width)))
            self.assertTrue(all(k <= 0 for k in v))
            self.assertTrue(all(v[j] == 0 for j in range(width) if j not in owners))
