"""The names and parameters that the document lists, module by module, for what has landed."""

FUNCTIONS = {
    "checks": {"is_integer": "value", "is_within": "value least most", "is_number": "value",
               "is_row": "value many", "is_plain": "value many"},
    "papers": {"fixed": "value"},
    "exact": {"number": "top under=1"},
    "rows": {"plain_row": "row", "spot_row": "row", "place_row": "row", "row_text": "row",
             "read_row": "text many"},
    "kernels": {"reduced": "rows wide", "kernel": "rows wide", "rank": "rows wide"},
}

ERRORS = {name: "part" for name in (
    "BadNumber BadRow BadTable BadForm BadText BadPins BadSurface BadName BadNames "
    "BadRenaming BadStroke BadPaper Misfit").split()}
ERRORS.update({"NoPins": "why", "NoStroke": "why", "TooMany": "what most"})

# Each class with the parameters it is made with, and the methods it defines itself.
CLASSES = {
    "errors": {name: (fields, ("__init__",)) for name, fields in ERRORS.items()},
    "papers": {"Paper": ("word *parts", ("__init__", "__eq__")),
               "Denial": ("word *parts", ("__init__", "__eq__", "__bool__"))},
}

MODULES = ("errors", "checks", "papers", "exact", "rows", "kernels")
