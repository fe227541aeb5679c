"""The log: a board made again from it."""

from callboard.board import Board


def replayed(plan, hour, log):
    board = Board(plan, hour)
    for event in log:
        board.apply(event)
    return board
