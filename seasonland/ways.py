"""When one can be where, from which days on one still gets there, and the ways."""

from seasonland.land import arrival
from seasonland.lines import LAST_DAY

# More starts than any itinerary can have, as each of them takes at least a day.
NO_WAY = 1000


def days_there(land, place, days, goal):
    """The days on which one can be at the goal, from a place on any of these days, in order."""
    reached = [[False] * (LAST_DAY + 1) for stays in land.stays]
    for day in days:
        reached[place][day] = True
    # Whoever goes on or stays is somewhere on a later day, so each day is complete when it's gone on from.
    for day in range(LAST_DAY):
        go_on(land, reached, day)
    return [day for day in range(LAST_DAY + 1) if reached[goal][day]]


def go_on(land, reached, day):
    """Mark where one can be later on, from where one can be on this day."""
    for place in range(len(reached)):
        if reached[place][day] and land.stays[place][day]:
            reached[place][day + 1] = True
    for leg in land.legs:
        if reached[leg.begin][day]:
            arrived = arrival(leg, day)
            if arrived is not None and arrived <= LAST_DAY:
                reached[leg.end][arrived] = True


def days_in_time(land, place, goal, last):
    """The days up to the last one from which one can be at the goal on some day up to the last one, in order."""
    needed = starts_needed(land, goal, list(range(last + 1)))
    return [day for day in range(last + 1) if needed[place][day] < NO_WAY]


def starts_needed(land, goal, days):
    """For each place, for each day, how many starts one needs at least to be at the goal on one of these days."""
    needed = [[NO_WAY] * (LAST_DAY + 1) for stays in land.stays]
    for day in days:
        needed[goal][day] = 0
    for day in range(LAST_DAY - 1, -1, -1):
        look_ahead(land, needed, day)
    return needed


def look_ahead(land, needed, day):
    """Find how many starts one needs from this day on; all later days are found already."""
    for place in range(len(needed)):
        if land.stays[place][day]:
            needed[place][day] = min(needed[place][day], needed[place][day + 1])
    for leg in land.legs:
        arrived = arrival(leg, day)
        if arrived is not None and arrived <= LAST_DAY:
            needed[leg.begin][day] = min(needed[leg.begin][day], needed[leg.end][arrived] + 1)


def way_to(land, place, day, goal, goal_day):
    """The starts, each a day and a leg's number, that bring one to the goal on its first day.

    They are as few as can be, and then each has the earliest day and the least leg that the ones ahead of it leave.
    """
    # Nobody stays at the goal up to its day, as one can't be there on an earlier one: the last start ends there.
    needed = starts_needed(land, goal, [goal_day])
    starts = []
    while needed[place][day] > 0:
        start = next_start(land, place, day, needed)
        leg = land.legs[start[1]]
        starts.append(start)
        place = leg.end
        day = arrival(leg, start[0])
    return starts


def next_start(land, place, day, needed):
    """The first start from a place, on this day or a later one, behind which one start fewer is needed."""
    left = needed[place][day] - 1
    # There is such a start, and as long as there is none, the number needed comes from staying: so one can stay.
    while True:
        for number, leg in enumerate(land.legs):
            if leg.begin == place and leads_to(leg, day, needed, left):
                return (day, number)
        day += 1


def leads_to(leg, day, needed, left):
    """Whether a leg is open on a day and just so many starts are left behind it."""
    arrived = arrival(leg, day)
    return arrived is not None and arrived <= LAST_DAY and needed[leg.end][arrived] == left


def day_behind_start(land, place, day, start_day, number):
    """The day on which one is behind a leg, from a place on a day by a start; None if one can't start so."""
    if number >= len(land.legs) or land.legs[number].begin != place:
        return None
    if start_day < day or not land.can_stay(place, day, start_day):
        return None
    return arrival(land.legs[number], start_day)


def days_behind_stay(land, place, days, count):
    """The days behind a stay of so many days at a place, from any of these days on; a stay is over by the last day."""
    return [day + count for day in days if day + count <= LAST_DAY and land.can_stay(place, day, day + count)]


def stretches(days):
    """The first and the last day of each stretch of these days, which stand in order: as few as can be."""
    ends = []
    for day in days:
        if ends and ends[-1] == day - 1:
            ends[-1] = day
        else:
            ends.extend([day, day])
    return ends
