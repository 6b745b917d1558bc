"""What both checkers take, and what they refuse."""

from kernelpapers.errors import NoPaper
from kernelpapers.grounds import ground_of
from kernelpapers.kernel import fault_of_row
from kernelpapers.sayings import Kernel
from kernelpapers.second import Second


def want_settled(ground, saying, paper):
    """Refuses, as both checkers do, a saying that has no kind, then a paper that has another saying or none."""
    kernel = Kernel(ground)
    kernel.kind_in([], saying)
    kernel.want_saying([], paper, saying)
    second = Second(ground)
    second.kind_in([], saying)
    second.want_saying([], paper, saying)


def is_taken(ground, row, paper):
    """Whether both checkers take a row in the ground of those ahead; the paper is that of a hold."""
    try:
        if row[0] == "thing":
            return fault_of_row(ground, row) is None and _are_kinds(ground, row)
        want_settled(ground, row[2], row[3] if row[0] == "mean" else paper)
    except NoPaper:
        return False
    return True


def _are_kinds(ground, row):
    """Whether the second checker takes the sayings of a thing; it refuses one that has no kind."""
    second = Second(ground)
    for number, bound in enumerate(row[3]):
        second.kind_in(row[3][:number], bound)
    second = Second(ground_of([*ground.rows(), (*row[:4], ())]))
    heights = [row[2]]
    for sayings in row[4]:
        for number, saying in enumerate(sayings):
            heights.append(second.kind_in([*row[3], *sayings[:number]], saying))
    return max(heights) == row[2]
