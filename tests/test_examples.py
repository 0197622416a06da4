"""The examples of the document for the modules there are, in [15], [22], [41], [54], [71], [85], [100], [114],
[133] and [147]."""

import unittest

from leanwebs.errors import BadLine
from tests.helper import Case

# Each row has the lines that the document shows and what the last of them gives.
EXAMPLES = (
    ("""from leanwebs.webs import Web
from leanwebs.sums import mean, total
web = Web.ring((1, 2), (1, 2), (1, 2), (1, 2))
(total(web), mean(web, (0, 1)), mean(web, [2, 0]), mean(web, (3,), floor=1))""",
     "((17, 1), (10, 17), (8, 17), (8, 17))"),
    ("""from leanwebs.webs import Web
from leanwebs.spreads import Spread, squares
rest = Spread.of(Web.star((1, 2), (1, 2), (1, 2))).left_out((0,))
squares(rest)""",
     "(((0, 1), (7, 3)), ((0, 2), (7, 3)), ((1, 2), (7, 3)))"),
    ("""from leanwebs.webs import Web
from leanwebs.spreads import Spread, unlike_boxes
unlike_boxes(Spread.of(Web.star((1, 2), (1, 2), (1, 2), (1, 2))).left_out([0]))""",
     "(0, 1, (1, 1, 1, 1), (1, 1, 1, -1))"),
    ("""from leanwebs.webs import Web
from leanwebs.toldties import tie_chances
tie_chances(Web.ring((1, 2), (1, 2), (1, 2)), 0)""",
     "((1, 9), (5, 9), (5, 6))"),
    ("""from leanwebs.webs import Web
from leanwebs.clusters import cluster_chances, sign_given
web = Web(2, [(0, 1, (1, 2)), (0, 1, (-1, 2))])
(cluster_chances(web), sign_given(web, (1,), (0, 1)), sign_given(web, (0, 1), (0, 1)))""",
     "([((), (1, 3)), ((0,), (1, 3)), ((1,), (1, 3))], -1, 0)"),
    ("""from leanwebs.webs import Web
from leanwebs.doubled import weights_seen
weights_seen(Web.line((1, 3)), (), (0, 1))""",
     "[(((0,), (1,)), (8, 9)), (((0, 1),), (1, 9))]"),
    ("""from leanwebs.webs import Web
from leanwebs.along import Along
one = Along(Web.ring((1, 2), (1, 2), (1, 3)), 2, (0, 1))
(one((1, 3)), one.slope(0), one.course, one.cross([0, (1, 2), (-1, 2), (1, 3)]))""",
     "((8, 13), (3, 8), 'rises', (-1, 4))"),
    ("""from leanwebs.webs import Web
from leanwebs.stretches import Stretches, ends
told = Stretches([((1, 4), (1, 2)), (0, (1, 2))])
ends(Web.line(0, 0), told, [((0, 2), 1), ((0, 1), -1)])""",
     "((-1, 2), (0,), (-1, 8), (1,))"),
    ("""from leanwebs.webs import Web
from leanwebs.balance import minus_ring, signs_saying
one, two = Web.ring((1, 2), (1, 2), (-1, 2)), Web.ring((1, 2), (-1, 2), (-1, 3))
(minus_ring(one), signs_saying(one), minus_ring(two), signs_saying(two))""",
     "((0, 1, 2), None, None, (1, 1, -1))"),
    ("""from leanwebs.webs import Web
from leanwebs.leaving import gap, left_web, touched
line = Web.line((1, 2), (1, 3))
(left_web(line, 1).ties, touched(line, (0, 2)), gap([(1, 2), (1, 2), (1, 2), (1, 2)]))""",
     "(((0, 1, (1, 6)),), (((0,), (1,)), ((2,), (1,))), ((29889, 65536), (50625, 65536)))"),
    ("""from leanwebs.stars import star_squares, triangle_doubles, triangle_squares
means = ((1, 4), (1, 6), (1, 6))
(star_squares(*means), triangle_doubles((1, 2), (1, 2), (1, 3)), triangle_squares(*means)[0])""",
     "(((1, 4), (1, 4), (1, 9)), ((64, 145), (4, 15), (4, 15)), (209, 81))"),
    ("""from leanwebs.webs import Web
from leanwebs.stars import four_star
from leanwebs.swaps import laid
made = laid(Web.line((1, 2)), Web.line((1, 3), (1, 5)), (1, 0))
(four_star(Web.star((1, 2), (1, 3), (1, 5)), (0, 1, 2, 3)), made.many, made.ties)""",
     "(((1, 1), (1, 4), (1, 9), (1, 25)), 3, ((0, 1, (1, 2)), (1, 0, (1, 3)), (0, 2, (1, 5))))"),
    ("""from leanwebs.webs import Web
from leanwebs.ways import ways, apart, cutting_place
web = Web.ring((1, 2), (1, 2), (1, 2), (1, 2))
(ways(web, 0, 2), apart(web, (0, 1), (2, 3)), apart(web, (0, 2), (1, 3)), cutting_place(web, (0, 1), (2, 3)))""",
     "([(0, 1), (3, 2)], ((0,), (2,)), None, None)"),
    ("""from leanwebs.webs import Web
from leanwebs.excess import excess, excess_parts
from leanwebs.halves import odd_halving
web = Web.ring((1, 2), (1, 2), (1, 2))
(excess(web, (0, 1), (1, 2)), excess_parts(web, (0, 1), (1, 2)), odd_halving(web, (0, 1), (1, 2)))""",
     "((2, 9), [((1,), (2, 9))], (1,))"),
    ("""from leanwebs.webs import Web
from leanwebs.signs import sign_kept, way_bounds
from leanwebs.sums import mean
web = Web.ring((1, 2), (1, 2), (1, 2))
other = web.contrary((2,))
(sign_kept(web, other, (0, 1)), mean(web, (0, 1)), mean(other, (0, 1)), way_bounds(web, 0, 1))""",
     "(0, (2, 3), (2, 7), ((1, 2), (3, 4)))"),
    ("""from leanwebs.webs import Web
from leanwebs.cutsums import cut_sum, is_cut, least_met
web = Web.ring((1, 2), (1, 2), (1, 2), (1, 2))
(cut_sum(web, 0, 2, (1, 3)), is_cut(web, (1,), 0, 2), least_met(web, (1, 3), 0, 2), least_met(web, (0, 1, 2), 0, 2))""",
     "((200, 289), False, 1, 2)"),
    ("""from leanwebs.webs import Web
from leanwebs.fours import four_of
from leanwebs.hinges import by_way_of, lean_gap, parts_three
web = Web.ring((1, 2), (1, 2), (1, 2), (1, 2))
four = four_of(web, (0, 1, 2, 3))
(four.links, four.knot, by_way_of(web, 0, (1, 2, 3)), lean_gap(web, 0, (1, 2, 3)), parts_three(web, 0, (1, 2, 3)))""",
     "(((36, 289), (0, 1), (36, 289)), (64, 289), (800, 4913), (-576, 4913), False)"),
    ("""from leanwebs.webs import Web
from leanwebs.blockweights import block_weights
web = Web.ring((1, 2), (1, 2), (1, 2), (1, 2))
block_weights(web, (0, 1, 2, 3))""",
     "[(((0, 1), (2, 3)), (36, 289)), (((0, 1, 2, 3),), (64, 289)), (((0, 3), (1, 2)), (36, 289))]"),
    ("""from leanwebs.webs import Web
from leanwebs.rows import crossing_four
web = Web.ring((1, 2), (1, 2), (1, 2), (1, 2))
(crossing_four(web, (0, 1, 2, 3)), crossing_four(web, (0, 2, 1, 3)))""",
     "(None, (0, 2, 1, 3))"),
    ("""from leanwebs.webs import Web
from leanwebs.rows import off, pairings_of
web = Web.ring((1, 2), (1, 2), (1, 2), (1, 2))
(pairings_of(web, (0, 2, 1, 3), (0, 1, 2, 3)), off(web, (0, 2, 1, 3), (0, 1, 2, 3)))""",
     "((64, 289), (-72, 289))"),
    ("""from leanwebs.webs import Web
from leanwebs.rows import row_by_pairing, signed_pairings
web = Web.ring((1, 2), (1, 2), (1, 2), (1, 2))
(signed_pairings([[1, 2, 3], [4, 5], [6], []]), row_by_pairing(web, (0, 2), (1, -1)))""",
     "((8, 1), (9, 68))"),
    ("""from leanwebs.webs import Web
from leanwebs.worths import TwoSum
from leanwebs.holding import holds, is_identity, never_zero
one = TwoSum(3, (0, 2), [((), 1), ((0, 1), -1)])
line, ring = Web.line((1, 2), (1, 3)), Web.ring((1, 2), (1, 2), (1, 2))
(one.worth(line), is_identity(one, line), one.worth(ring), holds(one, ring), never_zero(one, ring))""",
     "((0, 1), True, (2, 9), True, True)"),
    ("""from leanwebs.webs import Web
from leanwebs.worths import TwoSum
from leanwebs.holding import breaking, breaking_web
one = -TwoSum(3, (0, 2), [((), 1), ((0, 1), -1)])
ring = Web.ring((1, 2), (1, 2), (1, 2))
(breaking(one, ring), breaking_web(one, ring).ties)""",
     "(((0, 2), (1,)), ((0, 1, (0, 1)), (1, 2, (0, 1)), (2, 0, (1, 2))))"),
    ("""from leanwebs.fourlist import four_sum
from leanwebs.rims import breaking_at_rims, is_rim_identity
one = four_sum(1, -1, 1, -1)
(is_rim_identity(one, (0, 1, 2, 3)), breaking_at_rims(-one, (0, 2, 1, 3)))""",
     "(True, ((0, 2), (1, 3)))"),
    ("""from leanwebs.fourlist import four_holds, least_breaking
(four_holds(1, -1, 1, -1), least_breaking(-1, 1, 1, 0).ties)""",
     "(True, ((0, 3, (1, 2)), (1, 2, (1, 2))))"),
    ("""from leanwebs.spreads import spread_of_means
from leanwebs.rounds import is_round
from leanwebs.lines import breaks, f_at, line_numbers
one = spread_of_means(4, [((0, 1), (1, 4)), ((2, 3), (1, 4))])
numbers = line_numbers(one, (0, 0, 3, 3), 0, 1, 1)
(is_round(one), f_at(one, (0, 0, 3, 3)), numbers, breaks(numbers))""",
     "(False, (-5, 4), ((-5, 4), (0, 1), (-1, 4)), True)"),
    ("""from leanwebs.webs import Web
from leanwebs.spreads import Spread
from leanwebs.rounds import all_rates, is_round
from leanwebs.levels import level_gaps, rates_row
one = Spread.of(Web.ring((1, 2), (1, 2), (1, 2), (1, 2)))
row = rates_row(one, (1, 1, 1, 1))
(row, level_gaps(row), is_round(one), all_rates(one))""",
     "(((1, 1), (56, 17), (8, 17)), ((2592, 289),), True, True)"),
    ("""from leanwebs.webs import Web
from leanwebs.spreads import Spread
from leanwebs.lines import along_line
from leanwebs.rounds import closes
one = Spread.of(Web.line((1, 2), (1, 3)))
(along_line(one, (1, 0, 0), (1, 1, 1)), closes((9, 100), (1, 100), (1, 100), (1, 100)))""",
     "(((1, 1), (-2, 3), (-1, 1), (0, 1)), True)"),
    ("""from leanwebs.webs import Web
from leanwebs.layings import plain_laying
laying = plain_laying(Web.ring((1, 2), (1, 2), (1, 2)))
(laying.faces, laying.handles, laying.at_face(1), laying.twin().web.ties)""",
     "(((0, 2, 4), (1, 5, 3)), 0, (1, 0, 2), ((0, 1, (1, 3)), (0, 1, (1, 3)), (0, 1, (1, 3))))"),
    ("""from leanwebs.webs import Web
from leanwebs.layings import Laying
from leanwebs.classes import classes, mean_by_twins
from leanwebs.twins import contrary_total
web = Web(2, [(0, 1, (1, 2)), (0, 1, (1, 3)), (0, 1, (1, 5))])
laying = Laying(web, [[0, 2, 4], [1, 3, 5]])
(laying.faces, laying.handles, classes(laying), contrary_total(laying, (0,)), mean_by_twins(laying, (0, 1)))""",
     "(((0, 3, 4, 1, 2, 5),), 1, [(), (0, 1), (0, 2), (1, 2)], (10, 3), (4, 5))"),
    ("""from leanwebs.webs import Web
from leanwebs.layings import plain_laying
from leanwebs.turnedpictures import picture_in_twin
laying = plain_laying(Web.ring((1, 2), (1, 2), (1, 2)))
(picture_in_twin(laying, (0, 1, 2), (0, 1, 2)), picture_in_twin(laying, (0,), (0, 1)))""",
     "((1, 9), (0, 1))"),
    ("""from leanwebs.webs import Web
from leanwebs.cutstold import table_of, told_between, told_firm
from leanwebs.trees import tree_told
table = table_of(Web.line((1, 2), (1, 3)))
(table, told_between(3, table, 0, 2), told_firm(3, table), tree_told(3, table).ties)""",
     "(((1, 2), (1, 6), (1, 3)), (0, 1, 2), ((0, 1), (1, 2)), ((0, 1, (1, 2)), (1, 2, (1, 3))))"),
    ("""from leanwebs.tables import between, broken_three
(between([(1, 2)] * 6), broken_three([(-1, 2)] * 6))""",
     "(((0, 1), (1, 1)), ((0, 1, 2), 0))"),
    ("""from leanwebs.webs import Web
from leanwebs.portraits import seen_portrait
seen = seen_portrait(Web.star((1, 2), (1, 2), (1, 2)), (0, 1, 2, 3))
(seen.cutting, seen.links, seen.hinges)""",
     "(((0, 1, 2), (0, 1, 3), (0, 2, 3)), ((False, False, False),), ((0, (1, 2, 3)),))"),
)


class TestExamples(Case):
    def test_examples(self):
        for text, wanted in EXAMPLES:
            with self.subTest(text):
                *rows, last = text.split("\n")
                names = {}
                exec("\n".join(rows), names)
                self.assertEqual(repr(eval(last, names)), wanted)

    def test_bad_line(self):
        from leanwebs.texts import web_from
        self.raises(BadLine(3), web_from, "places 2\n\n 0 1  3/2")


if __name__ == "__main__":
    unittest.main()
