"""Pairbinds: operators whose precedence is stated pair by pair."""
