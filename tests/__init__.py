"""Tests of tinrecall."""
