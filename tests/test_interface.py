import importlib
import inspect
import unittest

FUNCTIONS = {
    "houses": ["standing_of(house, lift, rows)", "restless(standing)", "is_done(standing)", "people(standing)",
               "standing_at(standing, floor)"],
    "moves": ["is_move(standing, thing)", "is_plan(standing, thing)", "moved(standing, move)",
              "behind(standing, moves)", "all_moves(standing)"],
    "logs": ["is_log(standing, thing)", "behind_log(standing, log)", "length_of(log)", "written_out(log)",
             "as_log(moves)"],
    "gaps": ["counts(standing, gap)", "number(standing, gap)", "numbers(standing)", "rest(standing)",
             "crossings(standing, gap)", "spare(standing, gap)", "enough(standing, many)"],
    "silly": ["change(standing, move)", "silly_in(standing, moves)", "many_silly(standing, log)"],
    "wise": ["needs(standing, way)", "ways(standing)", "wise_moves(standing)", "willing_move(standing)"],
    "plans": ["plan(standing)", "mended(standing, moves)", "led(standing, chooser, most)",
              "willing(standing, chooser)"],
    "counting": ["many_plans(standing)", "plan_at(standing, index)", "plan_index(standing, plan)",
                 "first_moves(standing)", "settled_after(standing, floor)", "soonest_settled(standing, floor)"],
    "rules": ["swept(standing)", "carried(standing)", "contest(standing, choosers, most)"],
    "ends": ["turned(standing)", "rest_to(standing, end)", "plan_to(standing, end)"],
    "prices": ["through(standing, moves)", "bill(standing, prices, log)", "least_bill(standing, prices)"],
    "rooms": ["rest_for(standing, room)", "least_room(standing, many)", "rooms_for(standing, many)", "loads(standing)",
              "unlike_room(one, other)", "loads_back(ask, most)", "standing_with(row)", "thinned(standing)"],
    "wishes": ["is_wishes(house, stands, wants, thing)", "least_wishes(house, stands, wants)",
               "most_wishes(house, stands, wants)", "travel_bounds(house, stands, wants)",
               "pair_bounds(house, stands, wants, stand, want)", "is_sure(house, stands, wants, many)",
               "wishes_of(house, stands, wants, many)", "bounds_with(house, stands, wants, facts)"],
    "chances": ["gap_chances(house, stands, wants, gap)", "mean_rest(house, stands, wants)"],
    "news": ["joined(standing, group)", "raised(standing, group)", "with_news(standing, chooser, news)",
             "free_seats(standing, stand, want)"],
    "stays": ["most_held(standing, moves)", "set_down(standing, moves)", "fewest_set_down(standing)"],
    "peaks": ["most_held_ever(standing)", "least_peak(standing, floor)"],
    "strangers": ["judged(standing, thing)", "refuted(claim, house, most)", "few_moves(standing, many)"],
    "seen": ["seen_plans(standing, seen)", "seen_plan(standing, seen)"],
    "trees": ["is_tree_move(standing, thing)", "is_tree_plan(standing, thing)", "tree_moved(standing, move)"],
    "roads": ["road_counts(standing, road)", "road_number(standing, road)", "road_sum(standing)",
              "tree_rest(standing)", "is_stuck(standing)", "tree_ways(standing)", "tree_plan(standing)",
              "tree_silly_in(standing, moves)", "line_tree(standing, end)"],
    "texts": ["standing_text(standing)", "log_text(log)", "prices_text(prices)", "read_standing(text)",
              "read_log(text)", "read_prices(text)"],
    "branches": ["tree_text(standing)", "read_tree(text)"],
}
CLASSES = {
    "houses": ["House(floors, room)", "Standing(house, lift, groups)"],
    "lifts": ["Lift(standing)"],
    "treelifts": ["TreeLift(standing)"],
    "desks": ["Desk()"],
    "trees": ["Tree(parents, room)", "TreeStanding(tree, lift, groups)"],
}
METHODS = {
    "House": ["__eq__(self, other)"], "Standing": ["__eq__(self, other)"], "Tree": ["__eq__(self, other)"],
    "TreeStanding": ["__eq__(self, other)"],
    "Lift": ["go(self, way, aboard)", "join(self, group)", "finish(self)", "now(self)", "gone(self)", "silly(self)",
             "rest(self)", "ways(self)", "saved(self)", "back(self)", "depth(self)", "copy(self)",
             "trying(self, deed)"],
    "TreeLift": ["go(self, place, aboard)", "now(self)", "gone(self)", "silly(self)", "whole(self)", "ways(self)",
                 "stuck(self)", "back(self)", "depth(self)", "copy(self)", "trying(self, deed)"],
    "Desk": ["tell(self, line)", "undoable(self)"],
}


class Interface(unittest.TestCase):
    def test_functions(self):
        for module, calls in FUNCTIONS.items():
            place = importlib.import_module(f"willinglift.{module}")
            for call in calls:
                function = getattr(place, call.split("(")[0])
                self.assertTrue(inspect.isfunction(function))
                self.assertEqual(f"{function.__name__}{inspect.signature(function)}", call)
                self.assertEqual(function.__module__, place.__name__)

    def test_classes(self):
        for module, calls in CLASSES.items():
            place = importlib.import_module(f"willinglift.{module}")
            for call in calls:
                made = getattr(place, call.split("(")[0])
                self.assertTrue(inspect.isclass(made))
                self.assertEqual(f"{made.__name__}{inspect.signature(made)}", call)
                self.assertEqual(made.__module__, place.__name__)
                for method in METHODS[made.__name__]:
                    # It stands in the class itself.
                    function = vars(made)[method.split("(")[0]]
                    self.assertTrue(inspect.isfunction(function))
                    self.assertEqual(f"{function.__name__}{inspect.signature(function)}", method)
                    self.assertEqual(function.__qualname__, f"{made.__name__}.{function.__name__}")


if __name__ == "__main__":
    unittest.main()
