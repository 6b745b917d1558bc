"""Kernelpapers: a small prover whose kernel believes nothing."""
