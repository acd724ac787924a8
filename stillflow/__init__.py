"""Stillflow: flows that no pair would leave."""
