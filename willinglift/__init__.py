"""Willinglift: the least moves of a lift, from every standing, whoever is taken."""
