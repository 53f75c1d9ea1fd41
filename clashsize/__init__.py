"""Clashsize: how many linear rules must be looked at together."""
