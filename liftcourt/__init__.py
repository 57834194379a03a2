"""Lifts in a house, and how long anybody waits."""
