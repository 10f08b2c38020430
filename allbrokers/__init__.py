"""Brokers of messages, decided for all runs."""
