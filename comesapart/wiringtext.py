"""Wirings as texts (points 13 and 71)."""

from comesapart.errors import BadLine, BadLink, BadNode
from comesapart.texts import is_number, text_lines
from comesapart.wirings import KINDS, Wiring


def format_wiring(wiring):
    """Return the written form of the wiring."""
    links = [f"link {first} {second}" for first, second in wiring.links]
    nodes = [f"{kind} {left} {right}" for kind, left, right in wiring.nodes]
    return "\n".join(links + nodes)


def parse_wiring(text):
    """Return the wiring that the text writes."""
    links, nodes = read_lines(text_lines(text))
    try:
        return Wiring(links, nodes)
    except BadLink as fault:
        raise BadLine(fault.link + 1) from fault
    except BadNode as fault:
        raise BadLine(len(links) + fault.node + 1) from fault


def read_lines(lines):
    """Return the links of the link lines and the nodes of the node lines, whatever their values."""
    links = []
    nodes = []
    for index, line in enumerate(lines):
        words = line.split(" ")
        if len(words) != 3 or not is_number(words[1]) or not is_number(words[2]):
            raise BadLine(index + 1)
        numbers = (int(words[1]), int(words[2]))
        if words[0] in KINDS:
            nodes.append((words[0],) + numbers)
        elif words[0] == "link" and not nodes:
            links.append(numbers)
        else:
            raise BadLine(index + 1)
    return links, nodes
