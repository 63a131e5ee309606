"""Shedding: parting a mixed flock into its farms by runs through a gate."""
