"""Fewpegs: many lines served through few pegs."""
