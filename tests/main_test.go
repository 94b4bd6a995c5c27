package tests

import (
	"os"
	"runtime/debug"
	"testing"
)

// The tests make much that is thrown away at once, and keep little: cleaning up so often would take most of their time.
func TestMain(m *testing.M) {
	debug.SetGCPercent(800)
	os.Exit(m.Run())
}
