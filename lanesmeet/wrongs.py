"""What goes wrong with a plan: deeds that no block does, deeds that are torn, races."""

from lanesmeet.cases import MARK
from lanesmeet.cuts import cut
from lanesmeet.fields import places_of, zone_by
from lanesmeet.making import woven_for
from lanesmeet.races import race_region
from lanesmeet.sizing import Lots
from lanesmeet.tearing import Ledger
from lanesmeet.ways import names_of, weighed
from lanesmeet.zones import some_numbers


def numbers_where(rows, saying):
    """Numbers, by names, that keep the rows and for which the saying, if there is one, holds; None without any."""
    numbers, _ = weighed(rows, {})
    if numbers is None or saying is None:
        return numbers
    names = names_of(rows)
    places = places_of(names)
    zones = cut(zone_by(rows, places), saying, True, places)
    if not zones:
        return None
    found = some_numbers(zones[0])
    return {name: found[places[name]] for name in names}


def missed(nest, plan):
    """Sizes of the nest and a deed whose block is not there, None if there is none at any sizes."""
    return first_missed(Ledger(nest, woven_for(nest, plan)))


def first_missed(ledger):
    """As missed, of what a plan lays out."""
    for deed, rows in ledger.all_missed():
        numbers = numbers_where(rows, None)
        if numbers is not None:
            return ledger.sizes_by(deed.choice[2], numbers), ledger.nest_deed(deed, numbers, "")
    return None


def torn(nest, plan):
    """Sizes of the nest and two deeds that are torn, None if there are none at any sizes."""
    return first_torn(Ledger(nest, woven_for(nest, plan)))


def first_torn(ledger):
    """As torn, of what a plan lays out."""
    for first, second, rows, saying in ledger.all_torn():
        numbers = numbers_where(rows, saying)
        if numbers is not None:
            sizes = ledger.sizes_by(first.choice[2], numbers)
            return sizes, ledger.nest_deed(first, numbers, ""), ledger.nest_deed(second, numbers, MARK)
    return None


def wrong_region(nest, plan):
    """The region of the kernel's sizes at which something is missed, torn, or a race."""
    woven = woven_for(nest, plan)
    ledger = Ledger(nest, woven)
    lots = Lots(woven.kernel)
    for deed, rows in ledger.all_missed():
        lots.take_in(deed.choice[2], lots.tiles_where(rows, []))
    for first, _, rows, saying in ledger.all_torn():
        lots.take_in(first.choice[2], lots.tiles_where(rows, [saying]))
    return lots.region() | race_region(woven.kernel)
