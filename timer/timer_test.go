package timer_test

import (
	"math"
	"slices"
	"testing"

	"trireme/timer"
)

const most = 1 << 40

// check checks the names of all entries, in order, and their start times.
func check(t *testing.T, x *timer.Table, names []string, starts ...int) {
	t.Helper()
	if got := x.Names(); !slices.Equal(got, names) {
		t.Error("names", got, "want", names)
	}
	for i, name := range names {
		if since, ok := x.Since(name); since != starts[i] || !ok {
			t.Error(name, since, ok)
		}
	}
}

func TestNoObject(t *testing.T) {
	for _, x := range []*timer.Table{nil, {}} {
		x.Note([]string{"a"}, 1)
		x.Drop("a")
		if since, ok := x.Since("a"); since != 0 || ok || x.Ripe(1, 0) != nil || x.Names() != nil || x.Copy() != nil {
			t.Error("a result of an object that is none")
		}
	}
}

func TestP27_1Note(t *testing.T) {
	x := timer.New()
	check(t, x, nil)
	x.Note([]string{"a", "b"}, 5)
	check(t, x, []string{"a", "b"}, 5, 5)
	x.Note([]string{"b", "b", ""}, 7)
	check(t, x, []string{"b", ""}, 5, 7)
	x.Note([]string{"a", "b"}, 9)
	check(t, x, []string{"b", "a"}, 5, 9)
	if got := x.Ripe(10, 5); !slices.Equal(got, []string{"b"}) {
		t.Error(got)
	}
	x.Note([]string{"c", "a", "b"}, 0)
	check(t, x, []string{"c", "b", "a"}, 0, 5, 9)
	x.Note(nil, 10)
	check(t, x, nil)
}

func TestP27_1TimesThatAreNotValid(t *testing.T) {
	x := timer.New()
	x.Note([]string{"a"}, most)
	for _, now := range []int{-1, most + 1, math.MaxInt, math.MinInt} {
		x.Note([]string{"b"}, now)
		x.Note(nil, now)
		check(t, x, []string{"a"}, most)
		if got := x.Ripe(now, 0); len(got) != 0 {
			t.Error(now, got)
		}
	}
	x.Note([]string{"a", "b"}, 0)
	check(t, x, []string{"b", "a"}, 0, most)
}

func TestP27_2SinceAndNames(t *testing.T) {
	x := timer.New()
	x.Note([]string{"z"}, 3)
	x.Note([]string{"z", "b", "a", "B"}, 4)
	x.Note([]string{"z", "b", "a", "B", "c"}, 1)
	check(t, x, []string{"c", "z", "B", "a", "b"}, 1, 3, 4, 4, 4)
	if since, ok := x.Since("x"); since != 0 || ok {
		t.Error(since, ok)
	}
	x.Names()[0] = "changed"
	check(t, x, []string{"c", "z", "B", "a", "b"}, 1, 3, 4, 4, 4)
}

func TestP27_2Ripe(t *testing.T) {
	x := timer.New()
	x.Note([]string{"c"}, 10)
	x.Note([]string{"c", "b", "a"}, 20)
	for _, c := range []struct {
		now, length int
		want        []string
	}{
		{20, 0, []string{"c", "a", "b"}}, {20, 10, []string{"c"}}, {20, 11, nil}, {19, 9, []string{"c"}}, {19, 0, []string{"c"}}, {9, 0, nil}, {0, 0, nil},
		{30, 10, []string{"c", "a", "b"}}, {30, 11, []string{"c"}}, {30, -1, nil}, {30, math.MinInt, nil}, {most, math.MaxInt, nil}, {most, most - 20, []string{"c", "a", "b"}},
	} {
		if got := x.Ripe(c.now, c.length); !slices.Equal(got, c.want) {
			t.Error(c.now, c.length, got)
		}
	}
}

func TestP27_2DropAndCopy(t *testing.T) {
	x := timer.New()
	x.Note([]string{"a", "b"}, 5)
	y := x.Copy()
	x.Drop("a")
	x.Drop("unknown")
	check(t, x, []string{"b"}, 5)
	check(t, y, []string{"a", "b"}, 5, 5)
	y.Note([]string{"c"}, 6)
	check(t, x, []string{"b"}, 5)
	check(t, y.Copy(), []string{"c"}, 6)
	x.Note([]string{"a", "b"}, 8)
	check(t, x, []string{"b", "a"}, 5, 8)
}

func TestP27_3Properties(t *testing.T) {
	x := timer.New()
	for now := range 20 {
		names := []string{"always"}
		if now != 10 {
			names = append(names, "once")
		}
		x.Note(names, now)
	}
	check(t, x, []string{"always", "once"}, 0, 11)
}
