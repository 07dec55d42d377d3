"""Waitedmeets: letters that wait for one another."""
