"""Hungfacts: units that are made by facts about one another."""
