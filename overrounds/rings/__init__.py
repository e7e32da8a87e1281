"""Rings of a loop, and the intervals that they allow."""
