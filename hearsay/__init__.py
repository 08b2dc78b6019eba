"""Hearsay: who knows by when that whom has heard."""
