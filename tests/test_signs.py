"""The one question behind all papers: a point for all signs, or a sum that shows that there is none."""

import random
import unittest
from unittest import mock

from support import question, total
from tripmeans import signs
from tripmeans.signs import judge_signs


class Signs(unittest.TestCase):
    def judged(self, width, weak, strict):
        """The word of what is found, which is checked."""
        word, *found = judge_signs(width, weak, strict)
        if word == "point":
            self.assertTrue(all(total(w, found[0]) >= 0 for w in weak))
            self.assertTrue(all(total(w, found[0]) > 0 for w in strict))
        else:
            ws, ss = found
            self.assertTrue(all(x >= 0 for x in ws + ss) and sum(ss) > 0)
            rows = list(zip([*weak, *strict], ws + ss))
            self.assertEqual([sum(w[k] * x for w, x in rows) for k in range(width)], [0] * width)
        return word

    def test_all_shapes(self):
        rand = random.Random(51)
        words = [self.judged(*question(rand)[:3]) for _ in range(500)]
        self.assertGreater(words.count("point"), 50)
        self.assertGreater(words.count("sum"), 50)

    def test_without_strict_rows_the_point_of_zeros_will_do(self):
        self.assertEqual(self.judged(2, ((1, 0), (-1, 0)), ()), "point")
        self.assertEqual(self.judged(2, (), ()), "point")

    def test_exchanges_do_not_go_round(self):
        # E. Beale's example: if of several rows that bound alike the first one left, the same six exchanges
        # would come again and again; with the first two places exchanged, if the last one left.
        real, exchanges = signs.pivoted, []

        def counted(*given):
            exchanges.append(given)
            if len(exchanges) > 100:
                raise AssertionError("the exchanges go round")
            return real(*given)

        for far in (1, 10, 1000):
            weak = ((4, 0, 0), (0, 4, 0))
            strict = ((0, 0, 1), (1, 2, 1 - 3 * far), (-32, -48, 1 + 80 * far), (-4, -2, 1 - 2 * far),
                      (36, 12, 1 + 24 * far))
            for places in ((0, 1, 2), (1, 0, 2)):
                rows = [tuple(tuple(w[k] for k in places) for w in some) for some in (weak, strict)]
                with mock.patch.object(signs, "pivoted", counted):
                    self.assertEqual(self.judged(3, *rows), "sum")
                exchanges.clear()


if __name__ == "__main__":
    unittest.main()
