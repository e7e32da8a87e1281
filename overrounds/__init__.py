"""Overrounds: loops whose rounds overlap."""
