"""Metehouse: a house of instruments that lie, drift, miss or tell only in part, and what they tell together."""
