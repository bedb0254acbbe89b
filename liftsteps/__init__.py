"""Liftsteps: chains of rounded steps between integer channels, for all integers."""
