"""The interface: its names, arguments and kinds, each defined in its own file; and what [1] says of all arguments."""

import copy
import importlib
import inspect
import unittest

import leanwebs.errors
from tests.helper import HALF, Case

FUNCTIONS = {
    "ratios": ("ratio_of(number)", "plus(one, other)", "minus(one, other)", "times(one, other)", "over(one, other)",
               "sign_of(one)", "at_most(one, other)", "odds_of(one)"),
    "lots": ("lot_of(lot, many)", "joined(lot, other)", "lots(many)", "even_lots(many)", "sayings(many)",
             "saying_of(saying, many)", "contrary(saying)", "sign_at(saying, lot)", "parting_of(parting, places)"),
    "webs": (),
    "pieces": ("pieces(web)", "hangs(web)", "hangs_within(web, lot)", "need_positive(web)", "need_not_below(web)",
               "need_hanging(web)"),
    "sums": ("weight(web, saying)", "total(web)", "chance(web, saying)", "mean(web, lot, *, floor=None)", "means(web)",
             "count_yes(web)"),
    "spreads": ("spread_of_means(many, rows)", "unlike_boxes(spread)", "is_webs(spread)", "squares(spread)"),
    "texts": ("web_text(web)", "web_from(text)"),
    "bundles": ("bundle_of(web, bundle)", "odd_ends(web, bundle)", "product_of(web, bundle)", "is_ringless(web, bundle)",
                "bundles_with(web, lot)", "bundle_sum(web, lot)"),
    "clusters": ("clusters(web, bundle)", "fits(web, bundle)", "sign_given(web, bundle, lot)",
                 "cluster_weight(web, bundle)", "cluster_chances(web)"),
    "joints": ("saying_and_clusters(web, saying, bundle)", "inner_and_clusters(web, inner, bundle, *, lot=())",
               "clusters_from_saying(web, saying)", "sayings_from_clusters(web, bundle)",
               "clusters_from_inner(web, inner)", "inners_from_clusters(web, bundle, *, lot=())"),
    "toldties": ("told_inner(web, ties, inner, *, lot=())", "told_clusters(web, ties, inner, *, lot=())",
                 "tie_chances(web, number)"),
    "doubled": ("doubled_weight(web, lot, bundle)", "weights_seen(web, lot, watched)"),
    "along": ("cross_ratio(four)", "fourth(points, pull)"),
    "odds": ("tie_factor(pull, other)", "factor(web, other)", "odds_moved(web, other, lot)"),
    "stretches": ("corners(web, stretches)", "ends(web, stretches, rows)", "holds_within(web, stretches, rows)"),
    "balance": ("minus_ring(web)", "signs_saying(web)", "beyond(web)"),
    "moves": ("both_greater(web, other)", "told_by_ties(web, other)"),
    "leaving": ("arms(web, place)", "left_web(web, place)", "gap(pulls)", "touched(web, lot)", "always_webs(web, lot)",
                "spoiling_pulls(web, lot)"),
    "stars": ("triangle_squares(m12, m13, m23)", "star_squares(m12, m13, m23)", "star_means(t1, t2, t3)",
              "triangle_doubles(t1, t2, t3)", "double_pull(pull)", "square_of_double(double)", "four_star(web, four)"),
    "swaps": ("as_tie(web, u, v)", "laid(web, part, places)", "same_rim(one, other, many)"),
    "ways": ("ways(web, u, v, *, most=2000)", "places_along(web, u, way)", "apart(web, pair, other)",
             "linked(web, pair, other)", "cuts(web, x, u, w)", "cutting_place(web, pair, other)", "cuts_all(web, four)"),
    "halves": ("halvings(web)", "odd_halving(web, lot, other)", "tie_halving(web, number, lot)"),
    "excess": ("excess(web, lot, other)", "excess_parts(web, lot, other)"),
    "signs": ("forests(web, lot)", "sign_kept(web, other, lot)", "way_bounds(web, u, v)"),
    "cutsums": ("cut_sum(web, u, w, lot)", "is_cut(web, lot, u, w)", "least_met(web, lot, u, w)",
                "uncut_web(web, lot, u, w)"),
    "fours": ("four_of(web, four)", "four_in(spread, four)", "greatest_product(four)", "is_cut_two(four)"),
    "blockweights": ("block_weights(web, lot)", "hosts(web, parting)", "product_from(web, lot, part)"),
    "rows": ("crossing_four(web, row)", "is_smooth(web, row)", "pair_means(web, row)", "signed_pairings(table)",
             "pairings_of(web, row, lot)", "off(web, row, lot)", "off_by_blocks(web, row, lot)",
             "row_chance(web, row, said)", "row_by_pairing(web, row, said)"),
    "hinges": ("by_way_of(web, hinge, three)", "parts_three(web, hinge, three)", "lean_gap(web, hinge, three)"),
    "partings": ("partings(places)", "even_in(parting, lot)", "hanging_partings(web)", "smooth_partings(row)",
                 "glued_web(web, parting, pull)"),
    "worths": (),
    "holding": ("breaking(one, web)", "holds(one, web)", "is_identity(one, web)", "never_zero(one, web)",
                "breaking_web(one, web)"),
    "rims": ("holds_at_rims(one, row)", "breaking_at_rims(one, row)", "is_rim_identity(one, row)",
             "rim_web(many, row, parting, pull)"),
    "fourlist": ("four_holds(m, p, q, r)", "least_breaking(m, p, q, r)", "four_sum(m, p, q, r)"),
    "rounds": ("closes(m, p, q, r)", "one_closes(m, p, q, r)", "is_round(spread)", "all_rates(spread)",
               "round_for_all(web)", "unround_sizes(web)"),
    "lines": ("f_at(spread, x)", "line_numbers(spread, x, u, v, k)", "breaks(numbers)", "breaking_line(spread)",
              "along_line(spread, x, d)"),
    "levels": ("rates_row(spread, rates)", "is_level(row)", "level_gaps(row)", "common_round(spread)"),
    "layings": ("plain_laying(web)",),
    "twins": ("twin_pull(pull)", "two_sides(pull)", "twin_factor(laying)", "contrary_total(laying, bundle)"),
    "classes": ("same_class(laying, bundle, other)", "class_sum(laying, bundle)", "classes(laying)",
                "total_by_twins(laying)", "mean_by_twins(laying, lot)"),
    "turnedpictures": ("picture_in_web(laying, inner, bundle)", "picture_in_twin(laying, inner, bundle)"),
    "cutstold": ("table_of(web)", "entry(many, table, u, v)", "told_cut(many, table, x, u, w)",
                 "told_between(many, table, u, w)", "told_firm(many, table)", "firm_lots(web)"),
    "trees": ("heaviest_tree(many, table)", "tree_told(many, table)"),
    "tables": ("triangle_sums(m12, m13, m23)", "comes_three(m12, m13, m23)", "comes_plainly(m12, m13, m23)",
               "broken_three(table)", "between(table)", "spread_with(table, whole)", "bounds(table)"),
    "portraits": ("told_portrait(spread)", "seen_portrait(web, kept)"),
}
OF_SUMS = ("__add__(self, other)", "__neg__(self)", "__mul__(self, other)", "__eq__(self, other)", "__len__(self)")
CLASSES = {
    ("webs", "Web"): ("__init__(self, many, ties)", "pull(self, number)", "ends(self, number)",
                      "with_pull(self, number, pull)", "with_tie(self, u, v, pull)", "without(self, bundle)",
                      "only(self, bundle)", "contrary(self, bundle)", "turned(self, lot)", "glued(self, parting)",
                      "merged(self)", "line(*pulls)", "ring(*pulls)", "star(*pulls)", "__add__(self, other)",
                      "__neg__(self)", "__eq__(self, other)", "__len__(self)", "__getitem__(self, at)",
                      "__iter__(self)", "__contains__(self, x)"),
    ("spreads", "Spread"): ("__init__(self, rows)", "of(web)", "chance(self, saying)", "mean(self, lot)",
                            "left_out(self, lot)", "box(self, u, v, saying)", "__eq__(self, other)"),
    ("along", "Along"): ("__init__(self, web, number, lot)", "__call__(self, pull)", "slope(self, pull)",
                         "cross(self, pulls)"),
    ("stretches", "Stretches"): ("__init__(self, rows)", "agrees(self, web)", "lows(self, web)", "highs(self, web)",
                                 "sizes_low(self, web)", "sizes_high(self, web)"),
    ("fours", "Four"): ("__init__(self, seven)", "by_way(self, k)", "swapped(self, order)"),
    ("worths", "Sum"): ("__init__(self, many, lot, rows)", "__len__(self)"),
    ("worths", "OneSum"): ("__init__(self, many, rows)", "worth(self, web)", "at_parting(self, parting)") + OF_SUMS,
    ("worths", "TwoSum"): ("__init__(self, many, lot, rows)", "worth(self, web)", "at_parting(self, parting)",
                           "by_weights(self, web)") + OF_SUMS,
    ("worths", "PairSum"): ("__init__(self, many, lot, rows)", "worth(self, web, other)",
                            "at_parting(self, parting, saying)") + OF_SUMS,
    ("layings", "Laying"): ("__init__(self, web, orders)", "face_of(self, end)", "at_face(self, number)",
                            "cut(self, lot)", "twin(self)", "__eq__(self, other)"),
    ("portraits", "Portrait"): ("__init__(self, many, cutting, links, hinges)", "__eq__(self, other)"),
}
PROPERTIES = {("webs", "Web"): ("shape", "positive"), ("along", "Along"): ("course",),
              ("layings", "Laying"): ("handles", "plane")}
ATTRIBUTES = {("worths", "OneSum"): ("many", "lot", "rows"), ("worths", "TwoSum"): ("many", "lot", "rows"),
              ("worths", "PairSum"): ("many", "lot", "rows"), ("layings", "Laying"): ("web", "orders", "faces"),
              ("portraits", "Portrait"): ("many", "cutting", "links", "hinges")}
MADE = {"OneSum": (2, []), "TwoSum": (2, (), []), "PairSum": (2, (), []), "Portrait": (0, (), (), ())}


def module_of(name):
    return importlib.import_module("leanwebs." + name)


class TestInterface(Case):
    def test_functions(self):
        for name, rows in FUNCTIONS.items():
            for row in rows:
                with self.subTest(row):
                    found = getattr(module_of(name), row.split("(")[0])
                    self.assertTrue(inspect.isfunction(found))
                    self.assertEqual(found.__module__, "leanwebs." + name)
                    self.assertEqual(found.__name__ + str(inspect.signature(found)), row)

    def test_classes(self):
        for (name, title), rows in CLASSES.items():
            made = getattr(module_of(name), title)
            self.assertEqual((made.__module__, made.__name__), ("leanwebs." + name, title))
            for row in rows:
                with self.subTest(row):
                    word = row.split("(")[0]
                    self.assertIn(word, vars(made))
                    self.assertEqual(word + str(inspect.signature(getattr(made, word))), row)
            for word in PROPERTIES.get((name, title), ()):
                self.assertIsInstance(vars(made)[word], property)

    def test_attributes(self):
        for (name, title), words in ATTRIBUTES.items():
            web = module_of("webs").Web.line(HALF)
            made = getattr(module_of(name), title)(*MADE.get(title, (web, [[0], [1]])))
            self.assertEqual(tuple(vars(made)), words)

    def test_sums_have_one_base(self):
        found = module_of("worths")
        for made in (found.OneSum, found.TwoSum, found.PairSum):
            self.assertEqual(made.__bases__, (found.Sum,))

    def test_each_module(self):
        self.assertEqual(len(FUNCTIONS), 45)
        self.assertEqual({name for name, _ in CLASSES} - set(FUNCTIONS), set())

    def test_errors_have_the_one_file(self):
        for name in FUNCTIONS:
            for word, value in vars(module_of(name)).items():
                if inspect.isclass(value) and issubclass(value, Exception):
                    self.assertIs(value, getattr(leanwebs.errors, word))


def calls():
    """A call of each function and method that takes lists, with lists in no order and in no lowest terms."""
    found = {name: module_of(name) for name in FUNCTIONS}
    web = found["webs"].Web(4, [[0, 1, [2, 4]], [1, 2, [3, 9]], [2, 3, [1, 4]], [3, 0, 0]])
    spread = found["spreads"].Spread([[2, 8], HALF, HALF, [2, 8]][:1] * 4)
    along = found["along"].Along(web, 0, [1, 0])
    lots, joints, told = found["lots"], found["joints"], found["toldties"]
    even, bundle, saying, parting = [1, 0], [2, 0], [1, -1, 1, 1], [[3, 1], [2, 0]]
    return (
        (lots.lot_of, even, 4), (lots.joined, even, [3, 1]), (lots.saying_of, saying, 4), (lots.contrary, saying),
        (lots.sign_at, saying, even), (lots.parting_of, parting, [3, 2, 1, 0]),
        (found["webs"].Web, 2, [[1, 0, [2, 4]]]), (found["webs"].Web.line, [2, 4], [3, 9]),
        (found["webs"].Web.ring, [2, 4], [3, 9]), (found["webs"].Web.star, [2, 4], [3, 9]), (web.with_pull, 0, [3, 9]),
        (web.with_tie, 0, 1, [3, 9]), (web.without, bundle), (web.only, bundle), (web.contrary, bundle),
        (web.turned, even), (web.glued, parting),
        (found["pieces"].hangs_within, web, even), (found["sums"].weight, web, saying),
        (found["sums"].chance, web, saying), (found["sums"].mean, web, even),
        (found["spreads"].Spread, [[2, 4], [2, 4]]), (found["spreads"].spread_of_means, 2, [[[1, 0], [2, 4]]]),
        (spread.chance, [1, -1]), (spread.mean, even), (spread.left_out, [1]), (spread.box, 0, 1, [1, -1]),
        (found["bundles"].bundle_of, web, bundle), (found["bundles"].odd_ends, web, bundle),
        (found["bundles"].product_of, web, bundle), (found["bundles"].is_ringless, web, bundle),
        (found["bundles"].bundles_with, web, even), (found["bundles"].bundle_sum, web, even),
        (found["clusters"].clusters, web, bundle), (found["clusters"].fits, web, bundle),
        (found["clusters"].sign_given, web, bundle, even), (found["clusters"].cluster_weight, web, bundle),
        (joints.saying_and_clusters, web, saying, bundle), (joints.inner_and_clusters, web, bundle, bundle),
        (joints.clusters_from_saying, web, saying), (joints.sayings_from_clusters, web, bundle),
        (joints.clusters_from_inner, web, bundle), (joints.inners_from_clusters, web, bundle),
        (told.told_inner, web, bundle, [2]), (told.told_clusters, web, bundle, [2]),
        (found["doubled"].doubled_weight, web, even, bundle), (found["doubled"].weights_seen, web, even, [3, 0]),
        (found["along"].Along, web, 0, even), (along, [2, 6]), (along.slope, [2, 6]),
        (along.cross, [[2, 4], [3, 9], 0, [-2, 4]]), (found["along"].cross_ratio, [[2, 4], [3, 9], 0, [-2, 4]]),
        (found["along"].fourth, [[0, [2, 4]], [1, [3, 9]], [2, 0]], [4, 2]),
        (found["odds"].tie_factor, [2, 4], [3, 9]), (found["odds"].odds_moved, web, web, even))


def later_calls():
    """The same for the modules from stretches on."""
    found = {name: module_of(name) for name in FUNCTIONS}
    web = found["webs"].Web(5, [[0, 1, [2, 4]], [1, 2, [3, 9]], [2, 3, [1, 4]], [3, 0, [2, 9]], [3, 4, [2, 4]]])
    told = found["stretches"].Stretches([[0, [2, 4]], [[3, 9], [2, 4]], [0, 0], [0, [2, 4]], [0, 0]])
    spread, four = found["spreads"].Spread.of(web), found["fours"].Four([[2, 4], 0, [3, 9], 1, 1, 1, [6, 4]])
    even, other, rows, row = [1, 0], [3, 1], [[[1, 0], [2, 4]], [[], -1]], [3, 0, 2, 1]
    return (
        (found["stretches"].Stretches, [[0, [2, 4]], [[3, 9], [2, 4]]]), (found["stretches"].ends, web, told, rows),
        (found["stretches"].holds_within, web, told, rows), (found["leaving"].gap, [[2, 4], [3, 9], 0, [1, 4]]),
        (found["leaving"].touched, web, other), (found["leaving"].always_webs, web, other),
        (found["leaving"].spoiling_pulls, web, other), (found["stars"].triangle_squares, [2, 4], [3, 9], [2, 8]),
        (found["stars"].star_squares, [2, 4], [3, 9], [2, 8]), (found["stars"].star_means, [2, 4], [3, 9], [2, 8]),
        (found["stars"].triangle_doubles, [2, 4], [3, 9], [2, 8]), (found["stars"].double_pull, [3, 9]),
        (found["stars"].square_of_double, [3, 9]), (found["stars"].four_star, web, row),
        (found["swaps"].laid, web, web, row), (found["ways"].places_along, web, 0, [0, 1]),
        (found["ways"].apart, web, even, [3, 2]), (found["ways"].linked, web, even, [3, 2]),
        (found["ways"].cutting_place, web, even, [3, 2]), (found["ways"].cuts_all, web, row),
        (found["halves"].odd_halving, web, even, other), (found["halves"].tie_halving, web, 0, other),
        (found["excess"].excess, web, even, other), (found["excess"].excess_parts, web, even, other),
        (found["signs"].forests, web, other), (found["signs"].sign_kept, web, web, other),
        (found["cutsums"].cut_sum, web, 0, 2, other), (found["cutsums"].is_cut, web, other, 0, 2),
        (found["cutsums"].least_met, web, other, 0, 2), (found["cutsums"].uncut_web, web, [3], 0, 2),
        (found["fours"].Four, [[2, 4], 0, [3, 9], 1, 1, 1, [6, 4]]), (four.swapped, row),
        (found["fours"].four_of, web, row), (found["fours"].four_in, spread, row),
        (found["blockweights"].block_weights, web, row), (found["blockweights"].hosts, web, [[3, 2], [1, 0]]),
        (found["blockweights"].product_from, web, row, other), (found["rows"].crossing_four, web, row),
        (found["rows"].is_smooth, web, row), (found["rows"].pair_means, web, row),
        (found["rows"].signed_pairings, [[[2, 4], 1, 2], [3, [6, 4]], [0], []]),
        (found["rows"].pairings_of, web, row, other), (found["rows"].off, web, row, other),
        (found["rows"].off_by_blocks, web, row, other), (found["rows"].row_chance, web, other, [1, -1]),
        (found["rows"].row_by_pairing, web, other, [1, -1]), (found["hinges"].by_way_of, web, 4, [3, 1, 2]),
        (found["hinges"].parts_three, web, 4, [3, 1, 2]), (found["hinges"].lean_gap, web, 4, [3, 1, 2]))


def listed(places):
    """The partings of places; a generator's own call makes none yet."""
    return list(module_of("partings").partings(places))


def last_calls():
    """The same for the modules from partings on."""
    found = {name: module_of(name) for name in FUNCTIONS}
    web = found["webs"].Web(4, [[0, 1, [2, 4]], [1, 2, [3, 9]], [2, 3, [1, 4]], [3, 0, [2, 9]], [0, 1, [2, 6]]])
    worths, spread, parting, row = found["worths"], found["spreads"].Spread.of(web), [[3, 1], [2, 0]], [3, 0, 2, 1]
    rows, bundle, table = [[[1, 0], [2, 4]], [[], -1], [[0, 1], 1]], [2, 0], [[2, 4], 0, [3, 9], [1, 5], 0, [2, 9]]
    one, two, pair = worths.OneSum(4, rows), worths.TwoSum(4, row, rows), worths.PairSum(4, row, rows)
    orders = [[7, 0, 8], [2, 9, 1], [4, 3], [6, 5]]
    laying, spread_table = found["layings"].Laying(web, orders), [[2, 4]] * 6
    classes, told, tables = found["classes"], found["cutstold"], found["tables"]
    return (
        (listed, [4, 2, 7]), (found["partings"].even_in, parting, [2, 0, 5]), (found["partings"].smooth_partings, row),
        (found["partings"].glued_web, web, parting, [2, 4]), (worths.OneSum, 4, rows), (worths.TwoSum, 4, row, rows),
        (worths.PairSum, 4, row, rows), (one.__mul__, [2, 4]), (one.at_parting, parting), (two.at_parting, parting),
        (pair.at_parting, parting, [1, -1, 1, 1]), (one.worth, web), (two.worth, web), (two.by_weights, web),
        (pair.worth, web, web), (found["holding"].breaking, two, web), (found["holding"].holds, pair, web),
        (found["holding"].is_identity, two, web), (found["holding"].never_zero, one, web),
        (found["holding"].breaking_web, one, web), (found["rims"].holds_at_rims, two, row),
        (found["rims"].breaking_at_rims, two, row), (found["rims"].is_rim_identity, two, row),
        (found["rims"].rim_web, 4, row, [[3, 0], [2], [1]], [2, 4]), (found["fourlist"].four_holds, [2, 4], 0, [-3, 9], 1),
        (found["fourlist"].least_breaking, [2, 4], 0, [-9, 9], 1), (found["fourlist"].four_sum, [2, 4], 0, [-3, 9], 1),
        (found["rounds"].closes, [2, 4], 0, [3, 9], 1), (found["rounds"].one_closes, [2, 4], 0, [3, 9], 1),
        (found["lines"].f_at, spread, [[2, 4], 0, 1, -1]), (found["lines"].breaks, [[2, 4], 0, 1]),
        (found["lines"].line_numbers, spread, [[2, 4], 0, 1, -1], 1, 0, [6, 4]),
        (found["lines"].along_line, spread, [[2, 4], 0, 1, -1], [0, [2, 4], 1, 0]),
        (found["levels"].rates_row, spread, [[2, 4], 2, 1, 1]), (found["levels"].is_level, [1, [6, 4], [2, 4]]),
        (found["levels"].level_gaps, [1, [6, 4], [2, 4]]), (found["layings"].Laying, web, orders), (laying.cut, [1, 0]),
        (found["twins"].twin_pull, [2, 4]), (found["twins"].two_sides, [2, 4]),
        (found["twins"].contrary_total, laying, bundle), (classes.same_class, laying, bundle, [3, 1]),
        (classes.class_sum, laying, bundle), (classes.mean_by_twins, laying, [2, 0]), (classes.classes, laying),
        (found["turnedpictures"].picture_in_web, laying, [4, 0], [4, 0, 1]),
        (found["turnedpictures"].picture_in_twin, laying, [4, 0], [4, 0, 1]), (told.entry, 4, table, 3, 0),
        (told.told_cut, 4, table, 3, 0, 1), (told.told_between, 4, table, 3, 0), (told.told_firm, 4, table),
        (told.table_of, web), (told.firm_lots, web), (found["trees"].heaviest_tree, 4, spread_table),
        (found["trees"].tree_told, 3, [[2, 4], [3, 12], [2, 4]]), (tables.triangle_sums, [2, 4], 0, [3, 9]),
        (tables.comes_three, [2, 4], 0, [3, 9]), (tables.comes_plainly, [2, 4], 0, [3, 9]), (tables.broken_three, table),
        (tables.between, spread_table), (tables.spread_with, spread_table, [2, 4]), (tables.bounds, table),
        (found["portraits"].Portrait, 4, [[0, 1, 2]], [[True, False, False]], [[0, [1, 2, 3]]]),
        (found["portraits"].seen_portrait, web, row))


def shown(value):
    """What can be compared of a value: the attributes of an object, else the value itself."""
    return vars(value) if hasattr(value, "__dict__") else value


class TestArguments(Case):
    def test_no_argument_is_changed(self):
        for call, *arguments in calls() + later_calls() + last_calls():
            with self.subTest(getattr(call, "__qualname__", "along")):
                kept = [copy.deepcopy(one) for one in arguments]
                first = call(*arguments)
                self.assertEqual([shown(one) for one in arguments], [shown(one) for one in kept])
                again = call(*arguments)
                self.assertEqual(shown(again), shown(first))
                if isinstance(first, (tuple, list, int)):
                    self.same(again, first)
                if isinstance(first, list):
                    self.assertIsNot(first, again)

    def test_tuples_do_as_well(self):
        def frozen(value):
            return tuple(frozen(one) for one in value) if isinstance(value, list) else value

        for call, *arguments in calls() + later_calls() + last_calls():
            with self.subTest(getattr(call, "__qualname__", "along")):
                first, other = call(*arguments), call(*[frozen(one) for one in arguments])
                self.assertEqual(shown(first), shown(other))

    def test_each_name_that_takes_lists_is_called(self):
        plain = {"corners", "minus_ring", "signs_saying", "beyond", "both_greater", "told_by_ties", "arms", "left_web",
                 "as_tie", "same_rim", "ways", "cuts", "halvings", "way_bounds", "greatest_product", "is_cut_two",
                 "partings", "hanging_partings", "is_round", "all_rates", "round_for_all", "unround_sizes",
                 "breaking_line", "common_round", "plain_laying", "twin_factor", "total_by_twins", "told_portrait"}
        called = {call.__name__ for call, *_ in later_calls() + last_calls()}
        names = {row.split("(")[0] for rows in list(FUNCTIONS.values())[list(FUNCTIONS).index("stretches"):] for row in rows}
        self.assertEqual(names - called, plain)

    def test_keywords(self):
        found = {name: module_of(name) for name in FUNCTIONS}
        web = found["webs"].Web.ring(HALF, HALF, HALF)
        lot = [1, 0]
        found["joints"].inner_and_clusters(web, [0], [0], lot=lot)
        found["joints"].inners_from_clusters(web, [0], lot=lot)
        found["toldties"].told_inner(web, [0], [0], lot=lot)
        found["toldties"].told_clusters(web, [0], [0], lot=lot)
        self.assertEqual(lot, [1, 0])


if __name__ == "__main__":
    unittest.main()
