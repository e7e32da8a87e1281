"""Sums of spans, and flows that bound them."""
