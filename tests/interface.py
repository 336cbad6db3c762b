"""The names and parameters that the document lists, module by module, for what has landed."""

FUNCTIONS = {
    "checks": {"is_integer": "value", "is_within": "value least most", "is_number": "value",
               "is_row": "value many", "is_plain": "value many"},
    "papers": {"fixed": "value"},
    "exact": {"number": "top under=1"},
    "rows": {"plain_row": "row", "spot_row": "row", "place_row": "row", "row_text": "row",
             "read_row": "text many"},
    "kernels": {"reduced": "rows wide", "kernel": "rows wide", "rank": "rows wide"},
    "tables": {"led": "table row", "multiplied": "one other", "determinant": "table", "plain_table": "table",
               "undone": "table"},
    "plane": {"joined": "one other", "crossed": "one other", "in_line": "spots", "seconds": "spots"},
    "space": {"line_through": "one other", "is_line": "value", "on_line": "line place", "on_plane": "plane place",
              "in_plane": "line plane", "meet": "one other", "plane_of": "one other",
              "plane_through": "line place", "line_of_planes": "one other", "pierced": "line plane",
              "plane_basis": "plane"},
    "forms": {"monomials": "letters degree", "value_of": "form letters degree row",
              "form_product": "one other letters degree further", "slope_of": "form letters degree letter",
              "pulled_form": "form letters degree rows", "on_line_of": "form line", "lies": "form line",
              "on_plane_of": "form plane"},
    "pins": {"judged_pins": "spots"},
    "curves": {"curves": "pins"},
}

ERRORS = {name: "part" for name in (
    "BadNumber BadRow BadTable BadForm BadText BadPins BadSurface BadName BadNames "
    "BadRenaming BadStroke BadPaper Misfit").split()}
ERRORS.update({"NoPins": "why", "NoStroke": "why", "TooMany": "what most"})

# Each class with the parameters it is made with, and the methods it defines itself.
CLASSES = {
    "errors": {name: (fields, ("__init__",)) for name, fields in ERRORS.items()},
    "papers": {"Paper": ("word *parts", ("__init__", "__eq__")),
               "Denial": ("word *parts", ("__init__", "__eq__", "__bool__"))},
    "pins": {"Apart": ("bars", ("__init__",)), "Same": ("one other", ("__init__",)),
             "InLine": ("four", ("__init__",)),
             "Pins": ("spots", ("__init__", "through", "__len__", "__iter__", "__contains__", "__eq__", "__str__",
                                "read"))},
}

# The parameters of methods; what is told to the object itself is left out.
METHODS = {("pins", "Pins"): {"through": "*numbers", "read": "text"}}

MODULES = ("errors", "checks", "papers", "exact", "rows", "kernels", "tables", "plane", "space", "forms", "pins",
           "curves")
