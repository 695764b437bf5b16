"""Papers: tables of prices which show that no choice of starts goes beyond a bound."""

from mixpace.graphs import Graph, row_from, weigh


def paper(kitchen, bound):
    """Returns the slack of the bound and a dict of the prices of all reachable standings, or raises Beaten."""
    graph = Graph(kitchen)
    prices, _ = weigh(graph, bound)
    table = {standing: price for standing, price in zip(graph.standings, prices)}
    return (_slack(graph, bound, prices), table)


def tight_row(kitchen, bound):
    """Returns a legal row that uses up the slack of the bound, or raises Beaten."""
    graph = Graph(kitchen)
    prices, choices = weigh(graph, bound)
    if _slack(graph, bound, prices) == 0:
        return []
    return row_from(graph, choices, graph.empty)


def _slack(graph, bound, prices):
    # A row of n windows has n - 1 beats between them, but the bound counts n.
    return max(0, prices[graph.empty] - bound[2])
