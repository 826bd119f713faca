"""Stirred: vessels whose contents are poured into one another."""
