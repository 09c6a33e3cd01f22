"""Tailpick: when choosing jobs from the end is best."""
