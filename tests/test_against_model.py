"""Many lists of calls, answered a second time by a plain model that is written another way."""

import unittest

from tests.asking import ask, text
from tests.chance import Chance, Traveller
from tests.model import Model, is_right
from tests.samples import right_lines, wrong_lines


class TestAgainstModel(unittest.TestCase):
    def test_lines(self):
        for line in right_lines():
            self.assertTrue(is_right(line), line)
        for line in wrong_lines():
            self.assertFalse(is_right(line), line)

    def test_edits_by_chance(self):
        for seed in range(300):
            chance = Chance(seed)
            calls = [text("P A\nP B\nB A B 0-9:1\nP C")] + [chance.call() for i in range(149)]
            model = Model()
            with self.subTest(seed=seed):
                self.assertEqual(ask(*calls), [model.answer(call) for call in calls])

    def test_trips_by_chance(self):
        for seed in range(120):
            traveller = Traveller(seed)
            model = Model()
            calls = [traveller.land()]
            told = [model.answer(calls[0])]
            for i in range(49):
                calls.append(traveller.call(model))
                told.append(model.answer(calls[-1]))
            with self.subTest(seed=seed):
                self.assertEqual(ask(*calls), told)


if __name__ == "__main__":
    unittest.main()
