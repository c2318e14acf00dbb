"""Canpath: water carried from a tap along a path."""
