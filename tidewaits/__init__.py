"""Tidewaits: ships that come and go on the tide, and none waits less."""
