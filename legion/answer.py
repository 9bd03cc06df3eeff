"""Answers: whether threads can reach bad situations, and how."""

from legion.back import Search, searched
from legion.certificate import least_crew
from legion.errors import NotPossible
from legion.floor import Floor, packed, unpacked
from legion.order import is_above
from legion.runs import after, possible_moves, start_with


def shortest_run(machine, found, situation):
    """Return the shortest run, the least of several, to a situation that covers a bad one.

    found is a list of layers, or a beginning of it.
    """
    if not is_above(situation, found[-1]):
        raise NotPossible("no run as short as these layers leads to a bad situation")
    return run_down(machine, news_of(found), situation)


def decide(machine, bad, *, fuel=100):
    """Return the answer to a list of bad situations."""
    rows = searched(machine, bad, fuel)
    if rows is None:
        return ("unknown",)
    basis = rows[-1][0]
    crew = least_crew(machine, basis)
    if crew is None:
        return ("never", basis)
    run = run_down(machine, [fresh for _, fresh in rows], start_with(machine, crew))
    return ("possible", crew, run, basis)


def is_never(machine, bad, fuel):
    """Return True if the answer to a list of bad situations is "never", otherwise False.

    This takes less time than the whole answer if it is "possible".
    """
    search = Search(machine, bad)
    for _ in range(fuel):
        fresh = [unpacked(one, machine[1]) for one in search.fresh]
        if search.is_too_long() or least_crew(machine, fresh) is not None:
            return False
        if not search.advance():
            return True
    return False


def news_of(found):
    """Return for each layer the list of what is new in it, packed.

    The whole layers would do, too, but it takes longer to go through them.
    """
    news = []
    before = {}
    for layer in found:
        now = {packed(situation): True for situation in layer}
        news.append([one for one in now if one not in before])
        before = now
    return news


def run_down(machine, news, situation):
    """Return the least of the shortest runs from a situation to one above layer 0.

    news has for each layer what is new in it, packed; the situation is above one of the layers.
    """
    floors = [Floor(fresh) for fresh in news]
    left = [floor.is_under(packed(situation)) for floor in floors].index(True)
    now = situation
    run = []
    # A situation with so many moves left is above that layer, and above none before:
    # so it covers an element that is new there.
    while left > 0:
        left -= 1
        move = first_move_above(machine, now, floors[left])
        run.append(move)
        now = after(machine, now, move)
    return run


def first_move_above(machine, situation, floor):
    """Return the first possible move that leads to a situation above a floor."""
    for move in possible_moves(machine, situation):
        if floor.is_under(packed(after(machine, situation, move))):
            return move
    raise NotPossible("no move leads to the next layer")
