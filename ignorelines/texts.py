"""Writes rules and lists of rules as texts, and reads such texts."""

from ignorelines.errors import InvalidRule, ParseError
from ignorelines.lists import MOST_RULES, Lines, check_lines
from ignorelines.rules import Rule, check_rule


def rule_text(rule):
    """The text of a rule."""
    check_rule(rule)
    again = "!" if rule.again else ""
    anchored = "/" if rule.anchored else ""
    directories = "/" if rule.directories else ""
    return again + anchored + rule.pattern + directories


def lines_text(lines):
    """The text of a list: a line for each rule."""
    check_lines(lines)
    return "".join([rule_text(rule) + "\n" for rule in lines])


def rule_of_line(index, row):
    """The rule that is written as a line; the index tells which line is at fault."""
    try:
        return Rule.of(row)
    except InvalidRule:
        raise ParseError(index) from None


def read_lines(text):
    """The list that is written as a text."""
    if not isinstance(text, str):
        raise ParseError(0)
    rows = text.split("\n")
    rest = rows.pop()
    rules = [rule_of_line(index, row) for index, row in enumerate(rows)]
    if not rules or rest != "":
        raise ParseError(len(rules))
    if len(rules) > MOST_RULES:
        raise ParseError(0)
    return Lines(rules)
