"""The names and parameters that the document lists, module by module, for what has landed."""

FUNCTIONS = {
    "checks": {"is_integer": "value", "is_within": "value least most", "is_number": "value",
               "is_row": "value many", "is_plain": "value many"},
    "papers": {"fixed": "value"},
    "exact": {"number": "top under=1"},
    "rows": {"plain_row": "row", "spot_row": "row", "place_row": "row", "row_text": "row",
             "read_row": "text many"},
    "kernels": {"reduced": "rows wide", "kernel": "rows wide", "rank": "rows wide"},
    "tables": {"led": "table row", "multiplied": "one other", "determinant": "table", "plain_table": "table",
               "undone": "table"},
    "plane": {"joined": "one other", "crossed": "one other", "in_line": "spots", "seconds": "spots"},
    "space": {"line_through": "one other", "is_line": "value", "on_line": "line place", "on_plane": "plane place",
              "in_plane": "line plane", "meet": "one other", "plane_of": "one other",
              "plane_through": "line place", "line_of_planes": "one other", "pierced": "line plane",
              "plane_basis": "plane"},
    "forms": {"monomials": "letters degree", "value_of": "form letters degree row",
              "form_product": "one other letters degree further", "slope_of": "form letters degree letter",
              "pulled_form": "form letters degree rows", "on_line_of": "form line", "lies": "form line",
              "on_plane_of": "form plane"},
    "pins": {"judged_pins": "spots"},
    "curves": {"curves": "pins"},
    "names": {"all_names": "", "class_of": "name", "name_of": "row", "times_met": "one other", "all_trios": "",
              "trios_of": "name", "pairs_of": "name", "is_six": "value", "all_sixes": "", "partner_of": "six",
              "all_arrays": "", "array_of": "rows"},
    "falls": {"is_standing": "pins name", "standing_names": "pins", "falls_on": "pins name", "weights_of": "pins"},
    "lines": {"line_of": "surface name", "told_lines": "surface", "name_of_line": "surface line",
              "names_on": "surface place", "meeting_place": "surface one other"},
    "fans": {"fifth_form": "form line", "fan_of": "surface name"},
    "noother": {"no_other_line": "surface"},
    "check_lines": {"shows_fan": "form value", "shows_all": "form lines value"},
    "planes": {"plane_of_trio": "surface trio", "joint_of_trio": "surface trio", "told_planes": "surface",
               "trios_in": "surface plane"},
    "ways": {"way_of": "surface array"},
    "check_ways": {"shows_way": "form value"},
    "peaks": {"told_peaks": "surface", "touching_plane": "surface place", "common_along": "form line",
              "no_other_peak": "surface"},
    "check_peaks": {"shows_peaks": "form places value"},
    "renamings": {"pins_swapped": "pin other", "pins_turned": "one other third", "six_exchanged": "six",
                  "judged_map": "pictures"},
    "words": {"word_of": "renaming", "said_by": "word"},
    "changes": {"frame_of": "pins", "settled_pins": "pins", "led_pins": "pins change", "judged_flat": "pins other",
                "lifted": "pins change", "changed_form": "form change", "led_line": "change line"},
    "downs": {"judged_down": "surface renaming", "judged_move": "surface renaming"},
    "matrices": {"matrix_at": "matrix place", "determinant_form": "matrix", "judged_matrix": "surface",
                 "left_spot": "surface place", "right_spot": "surface place", "told_across": "surface",
                 "carried_matrix": "surface renaming"},
    "outlines": {"outline_form": "form place", "seen_from": "place other", "outline_of": "surface place"},
    "strokes": {"compared_times": "one other", "judged_stroke": "pins pin to"},
}

ERRORS = {name: "part" for name in (
    "BadNumber BadRow BadTable BadForm BadText BadPins BadSurface BadName BadNames "
    "BadRenaming BadStroke BadPaper Misfit").split()}
ERRORS.update({"NoPins": "why", "NoStroke": "why", "TooMany": "what most"})

# Each class with the parameters it is made with, and the methods it defines itself.
CLASSES = {
    "errors": {name: (fields, ("__init__",)) for name, fields in ERRORS.items()},
    "papers": {"Paper": ("word *parts", ("__init__", "__eq__")),
               "Denial": ("word *parts", ("__init__", "__eq__", "__bool__"))},
    "pins": {"Apart": ("bars", ("__init__",)), "Same": ("one other", ("__init__",)),
             "InLine": ("four", ("__init__",)),
             "Pins": ("spots", ("__init__", "through", "__len__", "__iter__", "__contains__", "__eq__", "__str__",
                                "read"))},
    "surface": {"Spot": ("spot", ("__init__",)), "AtPin": ("pin line", ("__init__",)), "Bar": ("line", ("__init__",)),
                "Curve": ("curve", ("__init__",)), "Off": ("", ("__init__",)),
                "Surface": ("pins", ("__init__", "place_of", "place_at", "holds", "__contains__", "back", "third",
                                     "__eq__"))},
    "fans": {"Fan": ("line fives scale", ("__init__",))},
    "noother": {"NoOther": ("plane lines fans", ("__init__",))},
    "ways": {"Way": ("first second scale one other", ("__init__",)), "Alike": ("planes", ("__init__",))},
    "peaks": {"Peak": ("place bars cone", ("__init__",)), "NoOtherPeak": ("lines alone commons", ("__init__",))},
    "renamings": {"Kept": ("six", ("__init__",)), "Breaks": ("one other", ("__init__",)),
                  "Renaming": ("six", ("__init__", "led_name", "led_class", "__mul__", "undone", "still", "times",
                                       "__eq__", "__str__", "read"))},
    "changes": {"Settled": ("pins change", ("__init__",)), "Flat": ("change", ("__init__",)),
                "Lifted": ("pins change", ("__init__",)), "Unlike": ("three", ("__init__",)),
                "NoFlat": ("pin one other", ("__init__",))},
    "downs": {"Down": ("pins degree forms change", ("__init__",)), "Move": ("change", ("__init__",)),
              "Fallen": ("name", ("__init__",))},
    "matrices": {"Matrix": ("scale", ("__init__",)), "Across": ("names pins change", ("__init__",)),
                 "Carried": ("matrix scale", ("__init__",)), "OnCurve": ("curve", ("__init__",))},
    "outlines": {"Outline": ("kept form touches", ("__init__",))},
    "strokes": {"Goes": ("kept forms moments", ("__init__",)), "Surd": ("form which", ("__init__",)),
                "Still": ("", ("__init__",)),
                "Stroke": ("pins pin to", ("__init__", "__len__", "__iter__", "__eq__", "spot_at", "pins_at", "bars_at",
                                           "part"))},
}

# The parameters of methods; what is told to the object itself is left out.
METHODS = {("pins", "Pins"): {"through": "*numbers", "read": "text"},
           ("surface", "Surface"): {"place_of": "spot", "place_at": "pin line", "holds": "place", "back": "place",
                                    "third": "one other"},
           ("renamings", "Renaming"): {"led_name": "name", "led_class": "row", "undone": "", "still": "",
                                       "times": "", "read": "text"},
           ("strokes", "Stroke"): {"spot_at": "time", "pins_at": "time", "bars_at": "time", "part": "one other"}}

MODULES = ("errors", "checks", "papers", "exact", "rows", "kernels", "tables", "plane", "space", "forms", "pins",
           "curves", "surface", "names", "falls", "lines", "fans", "noother", "check_lines", "planes", "ways",
           "check_ways", "peaks", "check_peaks", "renamings", "words", "changes", "downs", "matrices", "outlines",
           "strokes")

# The document has no examples under these headings; NoOther stands in those of check_lines.
WITHOUT_EXAMPLES = ("errors", "noother", "check_ways")
