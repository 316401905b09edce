package backoff_test

import (
	"math"
	"slices"
	"testing"

	"trireme/api"
	"trireme/backoff"
)

func fresh(t *testing.T, first, most, reset int) *backoff.Table {
	t.Helper()
	b, e := backoff.New(first, most, reset)
	if e != api.OK {
		t.Fatal(e)
	}
	return b
}

// fail lets the group g fail and checks the length and the end of its backoff.
func fail(t *testing.T, b *backoff.Table, now, length, until int) {
	t.Helper()
	if got := b.Fail("g", now); got != length || b.Length("g") != length || b.Until("g") != until {
		t.Errorf("at %d: got %d, %d, until %d; want %d until %d", now, got, b.Length("g"), b.Until("g"), length, until)
	}
}

func TestNoObject(t *testing.T) {
	for _, b := range []*backoff.Table{nil, {}} {
		b.Fine("g")
		b.Clear()
		if b.Fail("g", 1) != 0 || b.May("g", 1) || b.Until("g") != 0 || b.Length("g") != 0 || b.Groups() != nil || b.Copy() != nil {
			t.Error("a result of an object that is none")
		}
	}
}

func TestP24_1New(t *testing.T) {
	const most = api.MaxTime
	for _, c := range [][3]int{{1, 1, 1}, {2, 6, 100}, {most, most, most}} {
		b, e := backoff.New(c[0], c[1], c[2])
		if e != api.OK || len(b.Groups()) != 0 || !b.May("g", 0) {
			t.Error(c, e)
		}
	}
	for _, c := range [][3]int{{0, 1, 1}, {-1, 1, 1}, {2, 1, 1}, {1, 1, 0}, {1, 1, -1}, {1, most + 1, 1}, {1, 1, most + 1}, {most + 1, most + 1, 1}, {math.MinInt, math.MinInt, 1}, {math.MaxInt, math.MaxInt, math.MaxInt}} {
		if b, e := backoff.New(c[0], c[1], c[2]); b != nil || e != api.ErrArg {
			t.Error(c, e)
		}
	}
}

func TestP24_2Fail(t *testing.T) {
	b := fresh(t, 2, 6, 100)
	fail(t, b, 0, 2, 2)
	fail(t, b, 2, 4, 6)
	fail(t, b, 6, 6, 12)
	fail(t, b, 12, 6, 18)
	fail(t, b, 200, 2, 202)
	fail(t, b, 301, 4, 305)
	fail(t, b, 405, 2, 407)
	fail(t, b, 506, 4, 510)
}

func TestP24_2UntilNeverDecreases(t *testing.T) {
	b := fresh(t, 3, 100, 5)
	fail(t, b, 50, 3, 53)
	fail(t, b, 10, 6, 53)
	fail(t, b, 0, 12, 53)
	fail(t, b, 45, 24, 69)
	fail(t, b, 74, 3, 77)
}

func TestP24_2TimesThatAreNotValid(t *testing.T) {
	b := fresh(t, 3, 100, 5)
	for _, now := range []int{-1, api.MaxTime + 1, math.MaxInt, math.MinInt} {
		if b.Fail("g", now) != 0 || len(b.Groups()) != 0 || b.May("g", now) {
			t.Error(now)
		}
	}
	fail(t, b, 7, 3, 10)
	for _, now := range []int{-1, api.MaxTime + 1, math.MaxInt, math.MinInt} {
		if b.Fail("g", now) != 0 || b.Length("g") != 3 || b.Until("g") != 10 || b.May("g", now) || b.May("h", now) {
			t.Error(now)
		}
	}
	fail(t, b, api.MaxTime, 3, api.MaxTime+3)
	if b.May("g", api.MaxTime) || !b.May("h", api.MaxTime) || !b.May("h", 0) {
		t.Error("May at the limits")
	}
}

func TestP24_3FineAndClear(t *testing.T) {
	b := fresh(t, 2, 100, 1000)
	fail(t, b, 0, 2, 2)
	fail(t, b, 0, 4, 4)
	b.Fail("h", 0)
	b.Fine("x")
	b.Fine("g")
	if !slices.Equal(b.Groups(), []string{"h"}) || !b.May("g", 0) || b.Until("g") != 0 || b.Length("g") != 0 {
		t.Error("Fine", b.Groups())
	}
	fail(t, b, 1, 2, 3)
	if !slices.Equal(b.Groups(), []string{"h", "g"}) {
		t.Error("a new entry is the last one", b.Groups())
	}
	b.Clear()
	if len(b.Groups()) != 0 || !b.May("h", 0) {
		t.Error("Clear", b.Groups())
	}
	b.Fail("z", 0)
	b.Fail("a", 0)
	if !slices.Equal(b.Groups(), []string{"z", "a"}) {
		t.Error("after Clear", b.Groups())
	}
}

func TestP24_4MayUntilLengthGroups(t *testing.T) {
	b := fresh(t, 5, 100, 1000)
	for _, name := range []string{"z", "b", "", "a", "b"} {
		b.Fail(name, 10)
	}
	if got := b.Groups(); !slices.Equal(got, []string{"z", "b", "", "a"}) {
		t.Error(got)
	}
	for now, want := range map[int]bool{0: false, 10: false, 14: false, 15: true, 16: true, 1000: true} {
		if b.May("z", now) != want || !b.May("unknown", now) {
			t.Error(now)
		}
	}
	if b.Until("b") != 20 || b.Length("b") != 10 || b.Until("unknown") != 0 || b.Length("unknown") != 0 {
		t.Error("Until or Length")
	}
	b.Groups()[0] = "changed"
	if b.Groups()[0] != "z" {
		t.Error("Groups is a new list")
	}
}

func TestP24_4Copy(t *testing.T) {
	b := fresh(t, 2, 6, 100)
	b.Fail("g", 0)
	b.Fail("h", 0)
	c := b.Copy()
	b.Fine("h")
	fail(t, b, 2, 4, 6)
	if c.Length("g") != 2 || !slices.Equal(c.Groups(), []string{"g", "h"}) {
		t.Error("the copy changed")
	}
	fail(t, c, 0, 4, 4)
	fail(t, c, 0, 6, 6)
	c.Fail("i", 0)
	c.Clear()
	if !slices.Equal(b.Groups(), []string{"g"}) || b.Length("g") != 4 {
		t.Error("the original changed")
	}
	if d := c.Copy(); d.Fail("g", 0) != 2 {
		t.Error("a copy of a copy")
	}
}

func TestP24_5Properties(t *testing.T) {
	b := fresh(t, 1, 100, 10)
	now, want := 0, 1
	for range 12 {
		if got := b.Fail("g", now); got != want {
			t.Error(now, got, want)
		}
		now = b.Until("g")
		if b.May("g", now-1) || !b.May("g", now) {
			t.Error("May at until", now)
		}
		want = min(2*want, 100)
	}
}
