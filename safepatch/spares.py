"""Spares: what the cheapest changes of a file cost if it has more blocks."""

from safepatch.files import MOST_BLOCKS, check_file, check_goal, file_at
from safepatch.plans import least_cost


def spare_costs(file, text):
    """Return the list of what the cheapest changes to a text cost with no more blocks, with one more, and so on."""
    check_file(file)
    check_goal(file, text)
    return [least_cost(with_spares(file, spares), text) for spares in range(MOST_BLOCKS - len(file) + 1)]


def fewest_spares(file, text):
    """Return the fewest more blocks with which there is a change to a text, None if there is none with any number."""
    for spares, cost in enumerate(spare_costs(file, text)):
        if cost is not None:
            return spares
    return None


def best_spares(file, text):
    """Return the pair of the fewest more blocks with which a change to a text costs least, and this cost.

    It is None if there is no change with any number.
    """
    known = [(cost, spares) for spares, cost in enumerate(spare_costs(file, text)) if cost is not None]
    if not known:
        return None
    cost, spares = min(known)
    return (spares, cost)


def with_spares(file, spares):
    """Return the File that has so many more blocks, with empty pieces."""
    return file_at(file, (file.pieces + ("",) * spares, file.order))
