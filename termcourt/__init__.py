"""Termcourt: a clerk of a court's terms."""
