"""Snapdigits: snapshot chains by digits."""
