"""The curves of pins."""

from sixpins.echelon import kernel_of
from sixpins.errors import BadPins
from sixpins.pins import Pins
from sixpins.powers import monomial_values


def curves(pins):
    """The reduced basis of the forms of third degree that go through all six pins."""
    if not isinstance(pins, Pins):
        raise BadPins("pins")
    return kernel_of([monomial_values(spot, 3) for spot in pins.spots], 10)
