"""The press: from the lines of a net to those of a board, and both held together."""

from gatefold.boardlines import board_lines, board_of
from gatefold.errors import NoMatch
from gatefold.folding import folded
from gatefold.labels import need_size
from gatefold.laying import laid
from gatefold.lighting import first_unlike
from gatefold.netlines import net_of


def pressed(lines, size):
    # Here already, since a size that is none is refused ahead of wrong lines.
    need_size(size)
    told = folded(net_of(lines))
    return board_lines(laid(told[0], told[1], size))


def unlike(lines, others):
    net = net_of(lines)
    board = board_of(others)
    if len(net.inputs) != board.many or len(net.outputs) != len(board.ties()):
        raise NoMatch("not as many inputs and as many outputs")
    return first_unlike(net.columns(), board.columns())
