"""Papers of what is KEPT, and of what is lost."""

from handsmade.bounds import MOST
from handsmade.covers import greatest_for, least_for
from handsmade.goods import goods_of
from handsmade.kept import rounds_of
from handsmade.leads import Leads
from handsmade.strikes import struck_so, ways_of


def keeping_turn(leads, heights, place, number, g, good):
    """A TURN of a STAND STRUCK so, and to what it leads: where the GOOD COMES, or is BROUGHT in fewer beats."""
    for there, comes in leads.led(place):
        if there in heights and (good in comes or heights[there][g] < number):
            return leads.turn_to(place, there, good if good in comes else None), there
    return None


def duty_of(works, leads, heights, stand, g):
    """The duty of a KEPT STAND for GOOD number g, and what its TURNS lead to."""
    number = heights[stand][g]
    turns = []
    nexts = []
    for way in ways_of(works, stand):
        place = struck_so(works, stand, way)
        turn, there = keeping_turn(leads, heights, place, number, g, goods_of(works)[g])
        turns.append(turn)
        nexts.append(there)
    return (number, tuple(turns)), nexts


def kept_rows(works, leads, heights, stand):
    """The rows of a KEPT PAPER of the STAND, by the HEIGHTS of its WEB."""
    # What is NO LESS than another STAND of the same HEIGHTS needs no row of its own.
    under = least_for(heights)
    order = [under[stand]]
    rows = []
    while len(rows) < len(order):
        here = order[len(rows)]
        duties = []
        for g in range(len(heights[here])):
            duty, nexts = duty_of(works, leads, heights, here, g)
            duties.append(duty)
            for there in nexts:
                if under[there] not in order:
                    order.append(under[there])
        rows.append((here, tuple(duties)))
    return tuple(rows)


def losing_way(works, leads, fallen, stand, good):
    """A WAY of a FALLEN STAND behind which the GOOD isn't BROUGHT, and to which (STAND, GOOD) its TURNS lead then."""
    number = fallen[stand][0]
    for way in ways_of(works, stand):
        ons = []
        for there, comes in leads.led(struck_so(works, stand, way)):
            if there in fallen and fallen[there][0] < number:
                ons.append((there, fallen[there][1][0]))
            elif there in fallen and fallen[there][0] == number and good in fallen[there][1] and good not in comes:
                ons.append((there, good))
            else:
                break
        else:
            return way, ons
    return None


def lost_rows(works, leads, fallen, stand):
    """The rows of a LOST PAPER of the STAND, by the rounds in which those of its WEB fell."""
    # What is NO MORE than another STAND that fell with it, for the same GOODS, needs no row of its own.
    over = greatest_for(fallen)
    order = [(over[stand], fallen[stand][1][0])]
    rows = []
    while len(rows) < len(order):
        here, good = order[len(rows)]
        way, ons = losing_way(works, leads, fallen, here, good)
        for there, what in ons:
            if (over[there], what) not in order:
                order.append((over[there], what))
        rows.append((here, fallen[here][0], good, way))
    return tuple(rows)


def kept_paper(works, stand, *, most=MOST):
    """A KEPT PAPER or a LOST PAPER of the STAND, whichever there is."""
    leads = Leads(works)
    rounds = rounds_of(works, leads, stand, most)
    if stand in rounds.heights:
        return "kept", kept_rows(works, leads, rounds.heights, stand)
    return "lost", lost_rows(works, leads, rounds.fallen, stand)
