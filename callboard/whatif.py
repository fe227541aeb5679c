"""What would be otherwise by other wishes."""

from callboard.board import Board, picture
from callboard.deeds import do, refusal
from callboard.plans import Plan


def turned_over(plan, switched):
    """The plan with the wishes of these numbers on where they were off, and off where they were on."""
    on = [was_on != (i in switched) for i, was_on in enumerate(plan.on)]
    wishes = [(is_on, wish.told()) for is_on, wish in zip(on, plan.wishes)]
    return Plan(plan.phones, plan.groups, wishes)


def do_or_leave_out(board, deed):
    if refusal(board, deed) is None:
        do(board, deed)


def what_if(plan, hour, deeds, switched):
    board = Board(plan, hour)
    other = Board(turned_over(plan, switched), hour)
    places = []
    for place, deed in enumerate(deeds):
        do_or_leave_out(board, deed)
        do_or_leave_out(other, deed)
        if picture(board)[1] != picture(other)[1]:
            places.append(place)
    return places
