"""The names, arguments and errors that the document lists for the parts that are there."""

import importlib
import inspect
import unittest

FUNCTIONS = {
    "differences": "is_row(thing) is_system(thing) is_point(system,thing) is_ring(system,thing) ring(system) "
                   "least_point(system) chains(system) is_chains(system,point,thing) most(system,a,b) "
                   "closed(system) follows(system,row) is_follows(system,row,thing) needless(system) "
                   "without(system,name) kept(system,names) joined(systems)",
    "sayings": "is_saying(thing) free_names(saying) holds(saying,point) put_terms(saying,terms) "
               "saying_of(systems) systems_of(saying) reach(saying) first_point(saying) is_within(one,other) "
               "parting_point(one,other)",
    "papers": "is_tree(claims,thing) nowhere(saying) within_paper(one,other) point_paper(saying,point)",
    "kernels": "is_name(thing)",
    "regions": "all_sizes(sizes,promises)",
    "texts": "text_of(kernel) kernel_of(text)",
    "meaning": "instances(kernel,sizes,block,lane) is_there(kernel,sizes,thing) cell_of(kernel,sizes,instance) "
               "cases_of(kernel,point) marked(system) same_cell(kernel,one,first,other,second)",
    "machine": "outcome_of(kernel,sizes,order)",
    "beside": "compared(kernel,one,other) meeting_between(kernel,sizes,one,other) "
              "are_beside(kernel,sizes,one,other) beside(kernel,case)",
    "parted": "parted_cases(kernel,point) parting(kernel) is_parting(kernel,thing) parted_papers(kernel) "
              "is_parted_papers(kernel,thing) parted_region(kernel)",
    "races": "races_at(kernel,sizes) is_race(kernel,thing) race_cases(kernel) race_saying(kernel,case) "
             "race(kernel) race_papers(kernel) are_race_papers(kernel,thing) race_region(kernel) verdict(kernel) "
             "verdict_at(kernel,sizes)",
    "orders": "two_orders(kernel,thing)",
    "steps": "races_in_step(kernel,width,sizes) step_cases(kernel,width) race_in_step(kernel,width) "
             "step_papers(kernel,width) are_step_papers(kernel,width,thing) right_widths(kernel)",
    "hits": "least_hits(many,lots) hit_tree(many,lots,number) is_hit_tree(many,lots,number,thing)",
    "needed": "bare(kernel) gaps_of(kernel) with_gaps(kernel,numbers) lots_of(kernel) fewest_meetings(kernel) "
              "is_fewest(kernel,numbers,thing) needless_meetings(kernel) without_meeting(kernel,point)",
    "edges": "beyond(kernel) beyond_papers(kernel) are_beyond_papers(kernel,thing) beyond_region(kernel) "
             "farthest(kernel,array,axis,side) enough(region,a,b)",
    "trimming": "sides(kernel,point) trimmed(kernel) shielded(kernel)",
    "covers": "stray(kernel,points,window) double(kernel,points) missing_sayings(kernel,points,window) "
              "missing(kernel,points,window) covered(kernel,points,window) cover_papers(kernel,points,window) "
              "are_cover_papers(kernel,points,window,thing)",
    "binomials": "poly_at(poly,values) poly_summed(poly,name,low,high)",
    "told": "worth(told,values) points_for(system,names) unlike_at(one,other,system)",
    "costs": "rows_at(kernel,width,sizes) issued_sums(kernel,width) idle_sums(kernel,width)",
    "lines": "line_of(kernel,layout,span,cell) touches_at(kernel,width,sizes,layout,span)",
    "traffic": "moved_sums(kernel,width,layout,span) needed_sums(kernel,layout,span) line_sums(kernel,layout,span) "
               "again_region(kernel,width,layout,span) common_region(kernel,layout,span)",
    "banks": "is_laying(counts,banks,thing) bank_of(counts,banks,laying,cell) lot_of(kernel,point,width,access) "
             "lots(kernel,point,width) access_for(kernel,point,width,lot) cost(counts,banks,laying,lot) "
             "clash(kernel,array,width,banks,laying) worst(kernel,array,width,banks,laying) "
             "turns_taken(kernel,sizes,width,banks,layings) paddings(kernel,array,width,banks) "
             "turnings(kernel,array,width,banks)",
    "placings": "evenly(counts,banks,first,second)",
    "nests": "is_nest(thing) pieces_of(nest) outcome_along(nest,sizes,line)",
    "carries": "carries(nest) carry_at(nest,carry) carry_region(nest,carry) free_loops(nest)",
    "maps": "are_fellows(one,other) is_map(one,other,thing) image(one,other,chart,sizes,instance) "
            "fetch(one,other,chart,sizes,instance) joined_map(one,two,three,first,second)",
    "judge": "judge_sayings(one,other,chart) judge(one,other,chart) judge_papers(one,other,chart) "
             "are_judge_papers(one,other,chart,thing)",
    "stories": "story(kernel,sizes,order) told(one,other,chart,sizes,order)",
    "changes": "changed(nest,change) spoil(nest,change) spoil_region(nest,change)",
    "heights": "fall(nest,heights) lifts(nest,choice)",
    "rounds": "reach_of(nest,heights,size) fewest_rounds(nest,size) chain_at(nest,sizes) "
              "by_heights(nest,heights,name,size)",
    "plans": "unfit(nest,plan)",
    "making": "made(nest,plan) cut(nest,width)",
    "wrongs": "missed(nest,plan) torn(nest,plan) wrong_region(nest,plan)",
    "gaps": "fewest_gaps(nest,plan)",
    "traces": "is_held(kernel,sizes,one,other) settled(kernel,sizes,order) order_of(kernel,sizes,ways) "
              "ring_of(kernel,sizes,ways) is_ring_of(kernel,sizes,ways,thing) journal(kernel,sizes,order) "
              "many_outcomes(kernel,sizes) outcomes(kernel,sizes) is_outcome(kernel,sizes,thing)",
}
CLASSES = {
    ("kernels", "Kernel"): ("width,lanes,blocks,sizes,promises,arrays,body", "around(point) __eq__(other)"),
    ("regions", "Region"): (
        "sizes,promises,told",
        "__contains__(x) __bool__() __or__(other) __and__(other) __sub__(other) __invert__() __eq__(other) "
        "within(other) told(rests) least() most(name) shown(other) is_shown(other,thing)"),
    ("machine", "Run"): (
        "kernel,sizes",
        "able() standing(block,lane) do(block,lane) go(order) finish() end() content(cell) met() outcome()"),
    ("plans", "Plan"): ("width,lanes,blocks,roles,gaps,copies", "__eq__(other)"),
    ("live", "Live"): (
        "kernel,sizes",
        "able() standing(block,lane) content(cell) done() order() do(block,lane) open_pairs() is_settled() free() "
        "to_open() many_left() behind(deed) take_back(deed) __eq__(other)"),
}
BARE = (
    "BadSystem BadName BadRow BadNames BadSaying BadPoint BadTerms BadClaims BadSizes BadPromises OtherSizes BadRests "
    "BadWidth BadLanes BadBlocks BadArrays BadKernel BadSizesAt BadBlock BadLane BadInstance BadChoice NotAble BadStep "
    "OtherBlocks SameLane BadPair BadRace StandsStill BadMany BadNumber BadBare BadGaps NotOne BadArray BadAxis BadSide "
    "BadRegion BadPoints BadWindow BadPoly BadValues BadEnds BadSum BadSpan BadLayout BadCell BadBanks BadCounts "
    "BadLaying BadAccess BadLot BadNest BadLine BadCarry BadChange BadHeights NotRising TooDeep BadRoles BadCopies "
    "BadPlan BadFellows BadMap BadDeed BadWays NotDone").split()
TOLD = {
    "BadSystems": ("at",), "NotBounded": ("name",), "Ringed": ("ring",), "BadTold": ("key",),
    "BadBody": ("point", "word"), "BadText": ("row",), "BadOrder": ("at",), "BadLots": ("at",),
    "Fixed": ("sizes", "one", "other"), "NotFit": ("word",), "Missed": ("sizes", "deed"),
    "Torn": ("sizes", "deed", "other"), "Behind": ("other",), "TooMany": ("most",)}


class Interface(unittest.TestCase):
    def test_functions(self):
        for module, told in FUNCTIONS.items():
            found = importlib.import_module("lanesmeet." + module)
            for one in told.split():
                name, arguments = one[:-1].split("(")
                function = getattr(found, name)
                self.assertEqual(function.__module__, "lanesmeet." + module)
                self.assertEqual(",".join(inspect.signature(function).parameters), arguments, name)

    def test_classes(self):
        for (module, name), (made, methods) in CLASSES.items():
            found = getattr(importlib.import_module("lanesmeet." + module), name)
            self.assertEqual(found.__module__, "lanesmeet." + module)
            self.assertEqual(list(inspect.signature(found).parameters), made.split(","))
            for one in methods.split():
                method, arguments = one[:-1].split("(")
                self.assertIn(method, found.__dict__)
                parameters = list(inspect.signature(found.__dict__[method]).parameters)[1:]
                if not method.startswith("__"):
                    self.assertEqual(",".join(parameters), arguments)

    def test_bare_errors(self):
        errors = importlib.import_module("lanesmeet.errors")
        self.assertEqual(errors.LaneError.__bases__, (ValueError,))
        for name in BARE:
            found = getattr(errors, name)
            self.assertEqual(found.__bases__, (errors.LaneError,), name)
            self.assertEqual(str(found("words")), "words")

    def test_errors_with_attributes(self):
        errors = importlib.import_module("lanesmeet.errors")
        things = [None, 3, "word", (1, 2), [1], {"n": (1, 0)}]
        for name, attributes in TOLD.items():
            found = getattr(errors, name)
            self.assertEqual(found.__bases__, (errors.LaneError,), name)
            self.assertEqual(tuple(inspect.signature(found.__init__).parameters)[1:], attributes)
            for at in range(len(things)):
                values = [things[(at + k) % len(things)] for k in range(len(attributes))]
                made = found(*values)
                self.assertEqual([getattr(made, word) for word in attributes], values)
                named = found(**dict(zip(attributes, values)))
                self.assertEqual([getattr(named, word) for word in attributes], values)
                self.assertIsInstance(str(made), str)

    def test_all_errors_are_listed(self):
        errors = importlib.import_module("lanesmeet.errors")
        own = {name for name, thing in vars(errors).items() if inspect.isclass(thing)}
        self.assertEqual(own, set(BARE) | set(TOLD) | {"LaneError"})

    def test_the_package_itself_defines_nothing(self):
        package = importlib.import_module("lanesmeet")
        names = [name for name in vars(package) if not name.startswith("__")]
        self.assertEqual([name for name in names if not inspect.ismodule(getattr(package, name))], [])


if __name__ == "__main__":
    unittest.main()
