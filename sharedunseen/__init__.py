"""Sharedunseen: stores that several offices change while the line is cut."""
