"""Texts of standings of trees, written and read."""

from willinglift.trees import Tree, TreeStanding
from willinglift.words import standing_lines, standing_rows


def tree_text(standing):
    """The text of a standing of a tree."""
    return standing_lines("parents", standing.tree.parents, standing, standing.tree.room)


def read_tree(text):
    """The TreeStanding that a text tells."""
    rows = standing_rows(text, "parents", True)
    tree = Tree(rows[0], rows[1][0])
    return TreeStanding(tree, rows[2][0], tuple(rows[3:]))
