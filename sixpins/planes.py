"""The planes that cut a surface in three lines, told by trios."""

from sixpins.errors import BadNames
from sixpins.given import given_row
from sixpins.names import is_names
from sixpins.roster import TRIOS, is_trio, names_of, number_of
from sixpins.space import common_place, is_on, plane_of_lines, within_plane
from sixpins.surface import given_surface


def plane_of_trio(surface, trio):
    """The plane in which the lines of the trio lie."""
    return plane_of_lines(lines_of_trio(surface, trio))


def joint_of_trio(surface, trio):
    """The place through which all three lines of the trio go, if they are unlike; None if there is none."""
    one, other, third = lines_of_trio(surface, trio)
    if one == other or one == third or other == third:
        return None
    place = common_place(one, other)
    return place if is_on(third, place) else None


def told_planes(surface):
    """The rows (plane, lines, weight) of the planes of all trios, ascending."""
    told = given_surface(surface)
    cuts = [tuple(sorted([told.lines[number] for number in trio])) for trio in TRIOS]
    planes = [plane_of_lines(lines) for lines in cuts]
    lines_in = {plane: lines for plane, lines in zip(planes, cuts)}
    return tuple([(plane, lines_in[plane], planes.count(plane)) for plane in sorted(set(planes))])


def trios_in(surface, plane):
    """The ascending tuple of the trios whose plane this is."""
    told = given_surface(surface)
    sought = given_row(plane, 4, "plane")
    inside = [within_plane(line, sought) for line in told.lines]
    # The lines of a trio lie in just one plane together.
    return tuple([names_of(trio) for trio in TRIOS if all([inside[number] for number in trio])])


def lines_of_trio(surface, trio):
    """The lines of the three names of a trio, in its order, as both are passed."""
    told = given_surface(surface)
    if not is_names(trio, 3) or not is_trio([number_of(name) for name in trio]):
        raise BadNames("trio")
    return [told.lines[number_of(name)] for name in trio]
