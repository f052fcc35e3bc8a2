"""Voyages: calls, one after the other."""

from keel.calls import called


def voyage(ship, cargo, calls):
    told = []
    for call in calls:
        outcome = called(ship, cargo, call)
        told.append(outcome)
        if outcome[0] == "refused":
            return told
        cargo = outcome[1]
    return told
