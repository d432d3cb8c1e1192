"""Members and rows [1], all rows [2], sums [3], several rows [4]."""

import unittest

from common import Case, DEEP, DEEP_PAIRS, LONG, NO_MANY, NO_SIGNS, NO_TUPLES, ODD, every_row, level_of, nested
from roundorlist.rows import is_row, level, made_row, made_rows, rows_of, sums, turned


def signs_of_sum(here, there):
    """The signs at a place of a sum, as [3] tells them."""
    if here == 0 or there == 0:
        return {here + there}
    if here == there:
        return {here}
    return {-1, 0, 1}


class MadeRow(Case):

    def test_a_row_is_returned(self):
        self.same(made_row(3, (1, 0, -1)), (1, 0, -1))
        for n in range(1, 5):
            for row in every_row(n):
                self.same(made_row(n, row), row)
        for row in ((1,) * 6, (0,) * 6, (-1,) * 6, (1, -1, 0, 0, -1, 1)):
            self.same(made_row(6, row), row)

    def test_names_of_the_arguments(self):
        self.same(made_row(n=2, thing=(1, 0)), (1, 0))
        self.same(made_row(thing=(1, 0), n=2), (1, 0))
        self.assertIs(is_row(thing=(1, 0), n=2), True)

    def test_n_is_from_1_to_6(self):
        for n in NO_MANY:
            self.refused("BadMany", n, made_row, n, (0,))
        for n in range(1, 7):
            self.same(made_row(n, (0,) * n), (0,) * n)
        self.refused("BadMany", 0, made_row, 0, ())
        self.refused("BadMany", 7, made_row, 7, (0,) * 7)

    def test_n_is_asked_first(self):
        self.refused("BadMany", 0, made_row, 0, None)
        self.refused("BadMany", True, made_row, True, (2,))
        self.refused("BadMany", None, made_row, None, None)
        self.refused("BadMany", DEEP, made_row, DEEP, DEEP)

    def test_no_tuple_of_n(self):
        for thing in NO_TUPLES:
            for n in (1, 2, 6):
                self.refused("BadRow", -1, made_row, n, thing)
        for n in range(1, 7):
            self.refused("BadRow", -1, made_row, n, ())
            self.refused("BadRow", -1, made_row, n, (1,) * (n - 1))
            self.refused("BadRow", -1, made_row, n, (1,) * (n + 1))
            self.refused("BadRow", -1, made_row, n, LONG)

    def test_length_is_told_ahead_of_parts(self):
        self.refused("BadRow", -1, made_row, 2, (7, 7, 7))
        self.refused("BadRow", -1, made_row, 2, (None,))

    def test_the_first_wrong_place_is_told(self):
        for wrong in NO_SIGNS:
            for place in range(4):
                row = (1, 0, -1, 1)[:place] + (wrong,) + (1, 0, -1)[place:]
                self.refused("BadRow", place, made_row, 4, row)
        self.refused("BadRow", 0, made_row, 3, (2, 2, 2))
        self.refused("BadRow", 1, made_row, 3, (0, True, False))
        self.refused("BadRow", 2, made_row, 3, (0, 1, False))
        self.refused("BadRow", 5, made_row, 6, (0, 1, -1, 0, 1, "1"))
        self.refused("BadRow", 0, made_row, 1, DEEP)
        self.refused("BadRow", 1, made_row, 2, DEEP_PAIRS)
        self.refused("BadRow", 0, made_row, 1, nested(2, 1))

    def test_is_row_of_rows(self):
        for n in range(1, 5):
            for row in every_row(n):
                self.assertIs(is_row(n, row), True)
                self.judged(is_row, n + 1, row)
                self.judged(is_row, n - 1, row)
        self.assertIs(is_row(6, (1, -1, 0, 0, -1, 1)), True)

    def test_is_row_of_what_is_none(self):
        for thing in ODD:
            for n in (1, 2, 6):
                if thing not in ((0,), (1,), (0, 1)) or any(type(part) is bool for part in thing):
                    self.judged(is_row, n, thing)
        for wrong in NO_SIGNS:
            self.judged(is_row, 1, (wrong,))
            self.judged(is_row, 2, (0, wrong))
            self.judged(is_row, 3, (wrong, 1, 1))

    def test_is_row_of_a_wrong_n(self):
        for n in NO_MANY:
            for thing in ((), (0,), (0,) * 7, None, DEEP):
                self.judged(is_row, n, thing)
        self.judged(is_row, True, (0,))

    def test_equal_calls_behind_refused_ones(self):
        for _ in range(2):
            self.refused("BadRow", 1, made_row, 2, (1, 2))
            self.same(made_row(2, (1, 1)), (1, 1))
            self.assertIs(is_row(2, (1, 1)), True)
            self.judged(is_row, 2, (1, 2))


class AllRows(Case):

    def test_level(self):
        self.same(level(1), (0,))
        self.same(level(n=3), (0, 0, 0))
        for n in range(1, 7):
            self.same(level(n), level_of(n))

    def test_level_of_a_wrong_n(self):
        for n in NO_MANY:
            self.refused("BadMany", n, level, n)

    def test_rows_of(self):
        self.same(rows_of(1), ((-1,), (0,), (1,)))
        two = ((-1, -1), (-1, 0), (-1, 1), (0, -1), (0, 0), (0, 1), (1, -1), (1, 0), (1, 1))
        self.same(rows_of(n=2), two)
        for n in range(1, 7):
            self.same(rows_of(n), every_row(n))
            self.same(rows_of(n), tuple(sorted(set(rows_of(n)))))
            self.assertEqual(len(rows_of(n)), 3 ** n)

    def test_rows_of_a_wrong_n(self):
        for n in NO_MANY:
            self.refused("BadMany", n, rows_of, n)
        self.same(rows_of(1), ((-1,), (0,), (1,)))

    def test_turned(self):
        self.same(turned((1, 0, -1)), (-1, 0, 1))
        self.same(turned(row=(0,)), (0,))
        for n in range(1, 7):
            self.same(tuple(turned(row) for row in reversed(every_row(n))), every_row(n))

    def test_turned_twice_is_the_row(self):
        for row in every_row(4):
            self.same(turned(turned(row)), row)


class Sums(Case):

    def test_example(self):
        wanted = ((-1, -1, 1), (0, -1, 1), (1, -1, 1))
        self.same(sums((1, -1, 0), (-1, -1, 1)), wanted)
        self.same(sums(two=(-1, -1, 1), one=(1, -1, 0)), wanted)

    def test_one_member(self):
        self.same(sums((0,), (0,)), ((0,),))
        self.same(sums((0,), (1,)), ((1,),))
        self.same(sums((-1,), (0,)), ((-1,),))
        self.same(sums((1,), (1,)), ((1,),))
        self.same(sums((-1,), (-1,)), ((-1,),))
        self.same(sums((1,), (-1,)), ((-1,), (0,), (1,)))
        self.same(sums((-1,), (1,)), ((-1,), (0,), (1,)))

    def test_all_pairs_of_rows(self):
        for n in (1, 2, 3):
            for one in every_row(n):
                for two in every_row(n):
                    let = [signs_of_sum(here, there) for here, there in zip(one, two)]
                    wanted = tuple(row for row in every_row(n) if all(s in signs for s, signs in zip(row, let)))
                    self.same(sums(one, two), wanted)

    def test_a_row_and_its_turned_one(self):
        self.same(sums((1,) * 6, (-1,) * 6), every_row(6))
        self.same(sums((1, 0, 0, 0, 0, -1), (-1, 0, 0, 0, 0, -1)),
                  ((-1, 0, 0, 0, 0, -1), (0, 0, 0, 0, 0, -1), (1, 0, 0, 0, 0, -1)))

    def test_the_sum_is_that_of_heights(self):
        for one in every_row(2):
            for two in every_row(2):
                ends = set()
                for moves in ((a, b, c, d) for a in (1, 2) for b in (1, 2) for c in (1, 2) for d in (1, 2)):
                    heights = (one[0] * moves[0] + two[0] * moves[1], one[1] * moves[2] + two[1] * moves[3])
                    ends.add(tuple((height > 0) - (height < 0) for height in heights))
                self.same(sums(one, two), tuple(sorted(ends)))


class MadeRows(Case):

    def test_rows_are_returned_as_they_stand(self):
        for rows in (((0,),), ((1,), (-1,)), ((-1,), (1,)), ((1,), (1,), (0,))):
            self.same(made_rows(1, rows), rows)
        self.same(made_rows(thing=((1, 0), (0, 1), (1, 0)), n=2), ((1, 0), (0, 1), (1, 0)))

    def test_from_1_to_14(self):
        for many in range(1, 15):
            self.same(made_rows(2, ((1, 0),) * many), ((1, 0),) * many)
        for many in (0, 15, 16, 30000):
            self.refused("BadRows", -1, made_rows, 2, ((1, 0),) * many)

    def test_n_is_asked_first(self):
        for n in NO_MANY:
            self.refused("BadMany", n, made_rows, n, ((0,),))
            self.refused("BadMany", n, made_rows, n, None)

    def test_no_tuple(self):
        for thing in NO_TUPLES:
            self.refused("BadRows", -1, made_rows, 1, thing)

    def test_many_are_told_ahead_of_parts(self):
        self.refused("BadRows", -1, made_rows, 1, (None,) * 15)
        self.refused("BadRows", -1, made_rows, 1, LONG)
        self.refused("BadRows", 0, made_rows, 1, (None,) * 14)

    def test_the_first_wrong_index_is_told(self):
        wrong = ((1,), (1, 0, 0), (1, 2), (1, True), (False, 0), None, True, 1, "10", (), DEEP, DEEP_PAIRS, LONG)
        for part in wrong:
            for index in (0, 1, 2, 13):
                rows = ((1, 0),) * index + (part,) + ((1, 0),) * (13 - index)
                self.refused("BadRows", index, made_rows, 2, rows)
        self.refused("BadRows", 1, made_rows, 2, ((1, 0), (1, 7), (7, 7)))
        self.refused("BadRows", 0, made_rows, 2, (1, 0))

    def test_equal_calls_behind_refused_ones(self):
        for _ in range(2):
            self.refused("BadRows", 1, made_rows, 1, ((1,), (2,)))
            self.same(made_rows(1, ((1,), (0,))), ((1,), (0,)))


if __name__ == "__main__":
    unittest.main()
