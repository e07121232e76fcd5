// Package probe has what the tests of several layers share; no layer calls it.
package probe

import (
	"bytes"
	"math"
)

// Roomy is a copy of p with spare room behind it that isn't noughts; whole is the copy and that room.
func Roomy(p []byte) (q, whole []byte) {
	whole = append(bytes.Clone(p), bytes.Repeat([]byte{0x01, 0xa5}, 40)...)
	return whole[:len(p)], whole
}

// Fill writes over p, its spare room too.
func Fill(p []byte) {
	p = p[:cap(p)]
	for i := range p {
		p[i] = 0x77
	}
}

// Places are those below 0 and behind the end of n bytes.
func Places(n int) []int {
	return []int{-1, math.MinInt, n + 1, n + 8, math.MaxInt - 8, math.MaxInt - 7, math.MaxInt}
}

// Spoilt tells which of the lists that made answers became others when one of an earlier answer was written over: none, if they share nothing.
func Spoilt(made func() [][]byte) []int {
	var out []int
	got := made()
	// Copies: what is handed out again would be written over here too.
	want := make([][]byte, len(got))
	for i, p := range got {
		want[i] = bytes.Clone(p)
	}
	for i := range got {
		again := made()
		Fill(got[i])
		for j, p := range made() {
			if !bytes.Equal(p, want[j]) || !bytes.Equal(again[j], want[j]) || j > i && !bytes.Equal(got[j], want[j]) {
				out = append(out, j)
			}
		}
	}
	return out
}

// Choices are those of n writes that may be kept: each one, if they are few; else none, all, each by itself, all but each, and the first ones.
func Choices(n int) [][]bool {
	var out [][]bool
	add := func(kept func(k int) bool) {
		keep := make([]bool, n)
		for k := range keep {
			keep[k] = kept(k)
		}
		out = append(out, keep)
	}
	if n <= 5 {
		for choice := range 1 << n {
			add(func(k int) bool { return choice>>k&1 == 1 })
		}
		return out
	}
	add(func(int) bool { return false })
	add(func(int) bool { return true })
	for i := range n {
		add(func(k int) bool { return k == i })
		add(func(k int) bool { return k != i })
		add(func(k int) bool { return k < i })
	}
	return out
}
