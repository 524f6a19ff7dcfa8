"""The interface: each name stands in its file, with its arguments, each method in the body of its class."""

import importlib
import inspect
import unittest

from alleyes.papers import Denial, Paper

CLASSES = {
    "ratios.Ratio": ("top bottom=1", "__add__ __sub__ __mul__ over(other) compared(other) is_below(other) __neg__ __abs__ "
                     "__bool__ __eq__ __str__ __repr__ read(text) of(value)"),
    "papers.Paper": ("word *parts", "__eq__ __bool__"),
    "papers.Denial": ("word *parts", "__eq__ __bool__"),
    "rows.Row": ("terms", "ratio_of(label) at(values) __add__ __sub__ __neg__ __mul__ __eq__ __str__ read(text)"),
    "steps.Step": ("terms", "between(one,other) right_of(name) up_of(name) __add__ __sub__ __neg__ __mul__ __eq__ __str__ "
                   "read(text)"),
    "steps.Mark": ("terms", "of_point(label) on_way(one,other,ratio) __add__ __sub__ __eq__ __str__ read(text)"),
    "pictures.Picture": ("name points", "place_of(label) __len__ __iter__ __contains__ __eq__ portion(names) moved(u,v) "
                         "enlarged(m) turned() mirrored() renamed(name,names=None) __str__ read(text)"),
    "scenes.Scene": ("depths", "depth_of(label) __len__ __contains__ __mul__ __eq__ __str__ read(text)"),
    "eyes.Eye": ("a b s", "__eq__ __str__ read(text) moved(u,v) enlarged(m) turned() mirrored()"),
    "cones.Cone": ("labels zeros aboves=()", "__len__ __contains__ __eq__ narrowed(zeros=(),aboves=())"),
    "flats.EyeRow": ("a b c g", "at(eye) __add__ __sub__ __neg__ __mul__ __eq__ __str__ read(text)"),
    "flats.Flat": ("lines", "__len__ __contains__ __eq__ narrowed(lines) weights_of(row)"),
    "facts.Null": ("step", "__eq__ __str__"),
    "facts.Along": ("one other", "__eq__ __str__"),
    "facts.SameWay": ("one other", "__eq__ __str__"),
    "facts.InPlane": ("step one other", "__eq__ __str__"),
    "facts.Upright": ("one other", "__eq__ __str__"),
    "facts.Lengths": ("one other p=1 q=1", "__eq__ __str__"),
    "facts.Foot": ("name a b", "__eq__ __str__"),
    "facts.Far": ("name s", "__eq__ __str__"),
    "facts.Tie": ("one other", "__eq__ __str__"),
    "books.Book": ("pictures facts=()", "picture_of(name) pairs(one,other) with_fact(fact) without(number) joined(other) __eq__ "
                   "__str__ read(text)"),
    "ready.Box": ("labels", "edge(number) right_angles() __eq__ __str__ read(text)"),
    "sayings.Deeper": ("one other", "__eq__ __str__"),
    "sayings.Before": ("mark", "__eq__ __str__"),
    "sayings.OnSide": ("label base one other mate", "__eq__ __str__"),
    "sayings.AtLeast": ("label one other ratio side mate", "__eq__ __str__"),
    "sayings.Sharp": ("one other", "__eq__ __str__"),
    "sayings.Blunt": ("one other", "__eq__ __str__"),
    "sayings.Longer": ("one other p=1 q=1", "__eq__ __str__"),
    "sayings.Shorter": ("one other p=1 q=1", "__eq__ __str__"),
    "lights.Sun": ("pairs", "__len__ __eq__ __str__ read(text)"),
    "lights.Lamp": ("one other foot posts", "__len__ __eq__ __str__ read(text)"),
    "lights.Water": ("base one other upright pairs", "__len__ __eq__ __str__ read(text)"),
    "lights.Mirror": ("base one other pairs", "__len__ __eq__ __str__ read(text)"),
    "solids.Solid": ("corners", "spot_of(name) __len__ __iter__ __contains__ __eq__ portion(names) moved(by) enlarged(place,m)"),
    "views.View": ("place right up ahead foot distance", "__eq__ numbers_of(place) moved(by) framed(foot,distance) "
                   "level(place,foot,distance)"),
    "desk.Desk": ("", "told(*lines) __call__(line) tried(*lines) undo() redo() twin() __len__ __iter__ __contains__ __eq__"),
}
PAPERS = {
    "cones": {"Lies": "depths", "NoScene": "weights lifts depths", "Zero": "weights", "Above": "weights lifts depths",
              "Below": "weights lifts depths", "Mixed": "below zero above", "AllZero": "weights", "Some": "zero apart",
              "NeverAll": "weights lifts depths"},
    "ranges": {"Even": "number weights above", "Stretch": "low high low_end high_end above"},
    "bowl": {"Sees": "a b s", "NoEye": "weights a b t", "ZeroEyes": "weights", "AboveEyes": "eye bar",
             "BelowEyes": "eye bar", "MixedEyes": "below zero above"},
    "highest": {"Highest": "a b s weights", "Upward": "a b"},
    "ways": {"Way": "direction factor sums above"},
    "standing": {"Possible": "scenes eyes", "NeverOne": "ties one other ways"},
    "drawn": {"Drawn": "x y x_even y_even", "Spread": "x_range y_range", "Sometimes": "below zero above", "Hidden": "signs"},
    "words": {"Always": "papers", "Both": "papers", "Waits": "steps", "Never": "papers"},
    "plans": {"Plan": "spots", "Metric": "square mixed"},
    "links": {"Joined": "lines", "Apart": "why"},
    "lacks": {"Lacks": "home number leads eyes"},
    "seconds": {"SecondEye": "a b s", "Several": "one other"},
    "clashes": {"Clash": "numbers paper spared", "Against": "numbers paper"},
    "bases": {"Cheapest": "numbers price eye axes closes apart", "Short": "rank eyes"},
    "strikes": {"Strikes": "numbers paper clashes", "NoStrike": "most clashes"},
    "offers": {"Offers": "follows bars opens waits", "Next": "number counts"},
}
DENIALS = ("NoScene", "NeverAll", "NoEye", "NeverOne", "Hidden", "Never", "Apart", "Several", "Clash", "Against",
           "Short", "NoStrike")
FUNCTIONS = {
    "checks": "is_integer(value) is_within(value,least,most) is_name(value) is_label(value)",
    "ratios": "is_ratio(value) added(ratios) least_of(ratios) greatest_of(ratios)",
    "papers": "fixed(value)",
    "spans": "rank_of(rows) reduced(rows) rest_of(rows,row) summed(rows,weights) weights_for(rows,row) free_of(rows,labels) "
             "solved(rows,values)",
    "forms": "form_of(picture,value) form_at(form,scene) in_space(numbers,eye) product(one,other,eye) place_at(numbers) "
             "placed(picture,scene,label,eye)",
    "sheet": "cross(one,other) determinant(one,two,three) direction_of(numbers) on_line(picture,labels) "
             "meet_of(picture,one,other)",
    "cones": "some_scene(cone) signs_of(cone,row) signs_of_rows(cone,rows)",
    "ranges": "stretch(cone,top,under)",
    "check_cones": "shows_lies(cone,value) shows_signs(cone,row,value) shows_signs_of_rows(cone,rows,value) "
                   "shows_stretch(cone,top,under,value)",
    "flats": "product_row(one,other)",
    "bowl": "some_eye(flat) signs_at_eyes(flat,row)",
    "highest": "one_eye(flat) highest(flat)",
    "check_eyes": "shows_sees(flat,value) shows_eye_signs(flat,row,value) shows_highest(flat,value)",
    "ways": "way_in(cone,form)",
    "maps": "mapped(lines,form) map_taking(others,ones) map_behind(one,other) map_back(lines)",
    "standing": "stand(book) home_form(standing,value) place_in(standing,mark) way_of(standing,step) "
                "together(standing,one,other)",
    "check_standing": "shows_way(standing,step,value) shows_paper(standing,value)",
    "marks_seen": "nth(one,other,number) middle(one,other) carried(top,foot,other) grid_mark(corner,one,other,m,n)",
    "drawn": "drawn(standing,mark) seen_from(standing,place,mark) drawn_form(standing,name,form)",
    "shapes": "tile_facts(a,b,c,d,*,upright=False,even=False) row_facts(*labels) stair_facts(*labels) "
              "post_facts(top,foot,up) fence_facts(*posts)",
    "ready": "cross_ratio(picture,p,q,r,s) part_way(standing,label,one,other,side,mate)",
    "check_drawn": "shows_drawn(standing,mark,value) shows_seen(standing,place,mark,value) "
                   "shows_drawn_form(standing,name,form,value) shows_part(standing,label,one,other,side,mate,value)",
    "sayings": "is_saying(value)",
    "words": "word_of(standing,saying)",
    "plans": "plan_of(standing,base,one,other,labels) metric(standing,one,other) "
             "area_ratio(standing,corners,others,base,one,other)",
    "check_words": "shows_word(standing,saying,value) shows_plan(standing,base,one,other,labels,value) "
                   "shows_metric(standing,one,other,value)",
    "lights": "lit(book,*lights)",
    "sun": "shadow_mark(standing,top,foot,lit_top,lit_foot,lit_end) sun_above(top,foot,end,p=1,q=1) sun_below(top,foot,end,p=1,q=1)",
    "lamps": "lamp_times(standing,foot,post,end)",
    "mirrors": "slid(standing,mark,base,one,other,ray) mirrored(standing,mark,base,one,other,upright) "
               "slid_place(standing,mark,base,one,other,ray) mirrored_place(standing,mark,base,one,other,upright)",
    "check_light": "shows_shadow(standing,top,foot,lit_top,lit_foot,lit_end,value) shows_times(standing,foot,post,end,value) "
                   "shows_slid(standing,mark,base,one,other,ray,value) shows_mirrored(standing,mark,base,one,other,upright,value)",
    "links": "map_between(standing,one,other) direction_in(standing,step,name) form_in(standing,value,name) "
             "drawn_in(standing,mark,name)",
    "lacks": "lacking(standing) what_lowers(standing,facts)",
    "seconds": "look_rows(standing,one,other) is_one_look(standing,one,other) is_new_look(standing,name) "
               "mate_eye(standing,eye,one,other) second_eye(standing,name)",
    "check_links": "shows_link(standing,one,other,value) shows_drawn_in(standing,mark,name,value) shows_second(standing,name,value) "
                   "shows_lacks(standing,value)",
    "clashes": "part_of(book,numbers) clash(book) fewest_lines(flat)",
    "bases": "offered_row(standing,fact) cheapest(standing,offered,prices)",
    "strikes": "strikes(book,most)",
    "offers": "sorted_offers(standing,offered) next_measure(standing,offered,sayings)",
    "check_choice": "shows_clash(book,value) shows_against(flat,value) shows_cheapest(standing,offered,prices,value) "
                    "shows_strikes(book,most,value) shows_offers(standing,offered,value)",
    "views": "eye_of(view)",
    "painting": "painted(solid,view,name) scene_of(solid,view,name) ties_of(solid,one,other) book_of(solid,views,facts=())",
    "truths": "led_by(solid,views,step) is_true(solid,views,fact) true_facts(solid,views,steps)",
    "reader": "read_line(line)",
    "desk_deeds": "changed(pictures,facts,line)",
    "desk_asks": "answer_of(pictures,facts,line)",
    "stories": "replay(lines) merged(one,other) parting(one,other)",
}
PROPERTIES = {"ratios.Ratio": "sign is_whole", "rows.Row": "is_nothing", "steps.Step": "is_plain", "eyes.Eye": "height",
              "cones.Cone": "free", "cones.Lies": "scene", "flats.EyeRow": "left is_nothing", "flats.Flat": "rank reduced",
              "bowl.Sees": "as_eye", "standing.Standing": "is_possible"}


def found(path):
    module, _, name = path.partition(".")
    return getattr(importlib.import_module(f"alleyes.{module}"), name)


def arguments(call, skipped=0):
    parts = str(inspect.signature(call))[1:-1].replace(" ", "").split(",")
    return ",".join(parts[skipped:])


class InterfaceTest(unittest.TestCase):
    def check_call(self, told, call, skipped):
        name, _, rest = told.partition("(")
        self.assertEqual(arguments(call, skipped), rest[:-1], told)

    def test_classes(self):
        for path, (made_with, methods) in CLASSES.items():
            kind = found(path)
            self.assertEqual([kind.__module__, kind.__name__], ["alleyes." + path.partition(".")[0], path.partition(".")[2]])
            self.assertEqual(arguments(kind.__init__, 1), made_with.replace(" ", ","))
            self.assertIn("__init__", vars(kind))
            for told in methods.split():
                name = told.partition("(")[0]
                self.assertIn(name, vars(kind), path)
                if "(" in told:
                    static = isinstance(vars(kind)[name], staticmethod)
                    self.check_call(told, getattr(kind, name), 0 if static else 1)

    def test_papers(self):
        for module, papers in PAPERS.items():
            for name, parts in papers.items():
                kind = found(f"{module}.{name}")
                self.assertEqual([kind.__module__, arguments(kind.__init__, 1)], [f"alleyes.{module}", parts.replace(" ", ",")])
                self.assertIn("__init__", vars(kind))
                self.assertTrue(issubclass(kind, Paper))
                self.assertIs(issubclass(kind, Denial), name in DENIALS)

    def test_functions(self):
        for module, functions in FUNCTIONS.items():
            for told in functions.split():
                call = found(f"{module}.{told.partition('(')[0]}")
                self.assertEqual(call.__module__, f"alleyes.{module}")
                self.check_call(told, call, 0)

    def test_other_classes(self):
        for path, names in (("standing.Heap", "__init__"), ("standing.Standing", "heap_of"), ("facts.Fact", "read"),
                            ("sayings.Saying", "read"), ("lights.Light", "read __len__ __eq__ __str__")):
            kind = found(path)
            self.assertEqual(kind.__module__, "alleyes." + path.partition(".")[0])
            self.assertTrue(all(name in vars(kind) for name in names.split()))
        for path in CLASSES:
            base = {"facts": "facts.Fact", "sayings": "sayings.Saying", "lights": "lights.Light"}.get(path.partition(".")[0])
            self.assertTrue(base is None or issubclass(found(path), found(base)))

    def test_properties(self):
        for path, names in PROPERTIES.items():
            for name in names.split():
                self.assertIsInstance(vars(found(path))[name], property)

    def test_static_methods(self):
        for path in ("ratios.Ratio", "rows.Row", "steps.Step", "steps.Mark", "pictures.Picture", "scenes.Scene", "eyes.Eye",
                     "flats.EyeRow", "facts.Fact", "books.Book", "ready.Box", "sayings.Saying", "lights.Light", "lights.Sun",
                     "lights.Lamp", "lights.Water", "lights.Mirror"):
            self.assertIsInstance(vars(found(path))["read"], staticmethod)


if __name__ == "__main__":
    unittest.main()
