"""Oppositions and appeals: what brings a claim down, and which claims are kept."""
