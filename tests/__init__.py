"""Tests of everystart."""
