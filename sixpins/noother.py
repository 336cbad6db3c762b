"""What shows that a surface has no lines but those that are told."""

from sixpins.falls import fallen
from sixpins.fans import fan_at
from sixpins.papers import Paper
from sixpins.roster import TRIOS
from sixpins.space import plane_of_lines
from sixpins.surface import given_surface


class NoOther(Paper):
    """A plane that cuts a form in three lines, and the fans of these lines."""

    def __init__(self, plane, lines, fans):
        Paper.__init__(self, "noother", plane, lines, fans)
        self.plane = self.parts[0]
        self.lines = self.parts[1]
        self.fans = self.parts[2]


def no_other_line(surface):
    """A NoOther that shows that the told lines of the surface are whole for its form."""
    told = given_surface(surface)
    # Any trio would do.
    onto = [fallen(told.pins.bars, number) for number in TRIOS[0]]
    lines = [told.lines[number] for number in onto]
    return NoOther(plane_of_lines(lines), lines, [fan_at(told, number) for number in sorted(set(onto))])
