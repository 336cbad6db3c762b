"""The curves of pins."""

from sixpins.echelon import kernel_of
from sixpins.pins import given_pins
from sixpins.written import plane_cubes


def curves(pins):
    """The reduced basis of the forms of third degree that go through all six pins."""
    return kernel_of([plane_cubes(spot) for spot in given_pins(pins, "pins").spots], 10)
