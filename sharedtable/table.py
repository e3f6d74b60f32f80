"""The calls on one new table, one behind another, and their answers."""

from sharedtable.doing import do_call
from sharedtable.reading import Reader
from sharedtable.state import State


def answers(calls):
    state = State()
    reader = Reader(calls)
    told = []
    while not reader.is_done():
        number = reader.take_number()
        answer = do_call(state, number, reader.take_given(number))
        told.append(len(answer))
        told.extend(answer)
    return told
