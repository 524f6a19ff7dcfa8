"""Spans: what is a sum of some rows."""

from alleyes.checks import first_twice, is_label, is_list
from alleyes.errors import BadNumber, BadRow
from alleyes.ratios import Ratio, added, are_ratios
from alleyes.rows import Row, check_row, check_rows, pairs_at
from alleyes.tables import leads_of, reduced_in, rest_in, table_of, weights_in
from alleyes.terms import are_terms, joined_terms


def rank_of(rows):
    """The greatest number of the rows none of which is a sum of the others."""
    check_rows(rows, "rows")
    labels = _labels_of(rows)
    return len(leads_of(_table_of(rows, labels)))


def reduced(rows):
    """The reduced rows, ascending by their leading labels."""
    check_rows(rows, "rows")
    labels = _labels_of(rows)
    lines = reduced_in(_table_of(rows, labels))
    return tuple([_row_of(line, labels) for line in lines])


def rest_of(rows, row):
    """The row less a sum of the rows, without their leading labels."""
    check_rows(rows, "rows")
    check_row(row, "row")
    labels = _labels_of([*rows, row])
    return _row_of(rest_in(_table_of(rows, labels), pairs_at(row, _spots_of(labels))), labels)


def summed(rows, weights):
    """The rows added up, each times its weight."""
    check_rows(rows, "rows")
    if not are_ratios(weights) or len(weights) != len(rows):
        raise BadNumber("weights")
    terms = {}
    for row, weight in zip(rows, weights):
        terms = joined_terms(list(terms.items()), row.terms, weight)
    return Row(terms)


def weights_for(rows, row):
    """Weights with which the rows add up to the row; None if there are none."""
    check_rows(rows, "rows")
    check_row(row, "row")
    labels = _labels_of([*rows, row])
    return weights_in(_table_of(rows, labels), pairs_at(row, _spots_of(labels)))


def free_of(rows, labels):
    """Those of the labels that lead no reduced row, ascending."""
    check_rows(rows, "rows")
    if not _are_different_labels(labels):
        raise BadRow("labels")
    leading = _leading(rows)
    return tuple([label for label in sorted(labels) if label not in leading])


def solved(rows, values):
    """The values, and with them the one value of each leading label at which all rows are 0."""
    reduced_rows = reduced(rows)
    found = _free_values(rows, reduced_rows, values)
    for row in reduced_rows:
        rest = [ratio * found[label] for label, ratio in row.terms[1:]]
        found[row.labels[0]] = -added(rest)
    return {label: found[label] for label in sorted(found)}


def _free_values(rows, reduced_rows, values):
    """A copy of the values, if they are of labels that do not lead, and of all such ones of the rows."""
    if not are_terms(values):
        raise BadNumber("values")
    leading = {row.labels[0]: True for row in reduced_rows}
    if [label for label in values if label in leading]:
        raise BadNumber("values")
    if [label for label in _labels_of(rows) if label not in leading and label not in values]:
        raise BadNumber("values")
    return {label: Ratio.of(values[label]) for label in values}


def _are_different_labels(value):
    return is_list(value) and all([is_label(label) for label in value]) and first_twice(value) is None


def _labels_of(rows):
    """All labels of the rows, ascending."""
    return sorted({label: True for row in rows for label in row.labels})


def _spots_of(labels):
    """The position of each label."""
    return {label: at for at, label in enumerate(labels)}


def _table_of(rows, labels):
    spots = _spots_of(labels)
    return table_of([pairs_at(row, spots) for row in rows], len(labels))


def _row_of(line, labels):
    return Row({labels[at]: ratio for at, ratio in line})


def _leading(rows):
    """The leading labels of the reduced rows, as the keys of a dict."""
    labels = _labels_of(rows)
    return {labels[at]: True for at in leads_of(_table_of(rows, labels))}
