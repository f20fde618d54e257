"""Tests of the package samerun."""
