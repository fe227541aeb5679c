"""Running a sheet: its orders, one by one, on a board."""

from callboard.bills import owed
from callboard.board import Board, picture
from callboard.deeds import do
from callboard.errors import NoDeed
from callboard.looker import looked
from callboard.routes import rings_of
from callboard.sheet import read_sheet


def answer_to_deed(board, deed):
    try:
        return ("done", do(board, deed))
    except NoDeed as refused:
        return ("refused", refused.word)


def answer_to(board, order):
    word = order[0]
    if word == "show":
        return (word, picture(board))
    if word == "owed":
        return (word, owed(board.log))
    if word == "rings":
        return (word, rings_of(board.plan))
    if word == "look":
        return (word, looked(board.plan, board.hour, order[1]))
    return answer_to_deed(board, order)


def run(text):
    told = read_sheet(text)
    board = Board(told[0], told[1])
    return [answer_to(board, order) for order in told[2]]
