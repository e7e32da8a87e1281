"""Intervals with units."""
