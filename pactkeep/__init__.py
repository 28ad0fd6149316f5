"""Pactkeep: agreements kept by the same few who meet again and again."""
