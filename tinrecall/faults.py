"""Which tins faults reach."""

from tinrecall.batches import tins_at, tins_in_racks
from tinrecall.stretches import both_of, set_of


def tins_reached(batch, fault):
    """The set of the tins of a batch that one fault reaches."""
    place, first, last, racks = fault
    met = tins_at(batch, place, first, last)
    if not racks:
        return met
    return both_of(met, tins_in_racks(batch, place, racks))


def reached(batches, faults):
    """The pairs (mark, set) of the tins that some fault reaches, batches without such a tin left out."""
    told = []
    for batch in batches:
        some = set_of([stretch for fault in faults for stretch in tins_reached(batch, fault)])
        if some:
            told.append((batch[0], some))
    return told
