"""Webs of places that say yes or no, with pulls, computed exactly."""
