package probe

import "muniment/api"

// Test is a test that is under way.
type Test interface {
	Helper()
	Errorf(format string, args ...any)
	Fatalf(format string, args ...any)
}

// Answers fails the test, if a call's error isn't the one wanted.
func Answers(t Test, what string, got, want api.Errno) {
	t.Helper()
	if got != want {
		t.Errorf("%s: error %d, want %d", what, got, want)
	}
}

// Sure fails the test at once, if a call that must go well doesn't.
func Sure(t Test, what string, got api.Errno) {
	t.Helper()
	if got != api.OK {
		t.Fatalf("%s: error %d", what, got)
	}
}

// Number, Word and Truth are values of the kinds Int, Text and Bool.
func Number(n int64) api.Value { return api.Value{Kind: api.Int, N: n} }
func Word(s string) api.Value  { return api.Value{Kind: api.Text, S: s} }
func Truth(n int64) api.Value  { return api.Value{Kind: api.Bool, N: n} }
