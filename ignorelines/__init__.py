"""Ignorelines: compares lists of ignore rules for all paths, and shortens them."""
