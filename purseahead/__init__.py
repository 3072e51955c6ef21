"""Charges paid ahead at few arrows of a program's chart, decided for all runs."""
