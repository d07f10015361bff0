"""Facehouse: services from the text of a face to the last letter."""
