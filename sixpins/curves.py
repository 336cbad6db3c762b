"""The curves of pins."""

from sixpins.echelon import kernel_of
from sixpins.pins import given_pins
from sixpins.powers import monomial_values


def curves(pins):
    """The reduced basis of the forms of third degree that go through all six pins."""
    return kernel_of([monomial_values(spot, 3) for spot in given_pins(pins, "pins").spots], 10)
