"""Hornbook: a Prolog system."""
