"""Certificates: lists of situations that show what no run can reach."""

from legion.back import fresh_ones, moves_by_target
from legion.floor import Floor, packed
from legion.order import least_ones


def is_certificate(machine, bad, chosen):
    """Return True if chosen is a certificate for the bad situations, otherwise False."""
    # A predecessor of a situation covers one of each situation that this one
    # covers: so the least ones are enough.
    least = [packed(situation) for situation in least_ones(chosen)]
    floor = Floor(least)
    for situation in bad:
        if not floor.is_under(packed(situation)):
            return False
    return not fresh_ones(moves_by_target(machine), floor, least, 0)


def least_crew(machine, chosen):
    """Return the least crew of a list of situations, or None."""
    crews = [crew_for(machine, situation) for situation in chosen]
    return min([crew for crew in crews if crew is not None], default=None)


def crew_for(machine, situation):
    """Return the least number of crew threads with which the start covers a situation, or None."""
    state, counts = machine[2]
    if state != situation[0]:
        return None
    crew = machine[3]
    for place, count in enumerate(situation[1]):
        if place != crew and counts[place] < count:
            return None
    return max(0, situation[1][crew] - counts[crew])
