package trace_test

import (
	"math"
	"slices"
	"strconv"
	"strings"
	"testing"

	"trireme/api"
	"trireme/trace"
)

func ev(now int, what, name string, n int) trace.Event {
	return trace.Event{Now: now, What: what, Name: name, N: n}
}

var counted = []string{"up", "raise", "fix"}
var named = []string{"clean", "refused", "hopeless", "evict", "delete", "keep", "stop", "gone", "down"}

func TestP32_1Right(t *testing.T) {
	long := strings.Repeat("é", 64)
	var right, wrong []trace.Event
	for _, what := range counted {
		right = append(right, ev(0, what, "g", 1), ev(api.MaxTime, what, long, 200), ev(7, what, "a:b", 100))
		wrong = append(wrong, ev(0, what, "g", 0), ev(0, what, "g", 201), ev(0, what, "g", -1), ev(0, what, "", 1), ev(0, what, "a b", 1), ev(0, what, "\xff", 1), ev(-1, what, "g", 1), ev(api.MaxTime+1, what, "g", 1))
	}
	for _, what := range named {
		right = append(right, ev(0, what, "g-1", 0), ev(api.MaxTime, what, long, 0))
		wrong = append(wrong, ev(0, what, "g-1", 1), ev(0, what, "", 0), ev(0, what, "(", 0), ev(-1, what, "g-1", 0), ev(0, what, long+"x", 0), ev(math.MaxInt, what, "g", 0), ev(0, what, "g", -1))
	}
	right = append(right, ev(5, "unhealthy", "", 0))
	wrong = append(wrong, ev(5, "unhealthy", "g", 0), ev(5, "unhealthy", "", 1), ev(-5, "unhealthy", "", 0), ev(5, "", "", 0), ev(5, "", "g", 0), ev(5, "Up", "g", 1), ev(5, "x", "g", 0))
	for _, e := range right {
		if !trace.Right(e) {
			t.Error(e)
		}
	}
	for _, e := range wrong {
		if trace.Right(e) {
			t.Error(e)
		}
	}
}

func TestP32_1Show(t *testing.T) {
	l := []trace.Event{ev(3, "up", "g", 1), ev(0, "up", "g", 0), ev(10, "unhealthy", "", 0), ev(11, "gone", "é-1", 0), ev(12, "x", "y", 0), ev(api.MaxTime, "raise", "h", 200)}
	if got := trace.Show(l); got != "3: up g 1\n10: unhealthy\n11: gone é-1\n"+strconv.Itoa(api.MaxTime)+": raise h 200\n" {
		t.Errorf("%q", got)
	}
	if got := trace.Show(nil); got != "" {
		t.Errorf("%q", got)
	}
}

func TestP32_2Parse(t *testing.T) {
	for s, want := range map[string][]trace.Event{
		"":            nil,
		"3: up g 1":   {ev(3, "up", "g", 1)},
		"3: up g 1\n": {ev(3, "up", "g", 1)},
		"0: unhealthy\n1: fix unhealthy 200\n0: down a:b": {ev(0, "unhealthy", "", 0), ev(1, "fix", "unhealthy", 200), ev(0, "down", "a:b", 0)},
		"1099511627776: gone 5":                           {ev(api.MaxTime, "gone", "5", 0)},
	} {
		if got, e, at := trace.Parse(s); !slices.Equal(got, want) || e != api.OK || at != 0 {
			t.Errorf("%q: %v %d %d", s, got, e, at)
		}
	}
}

func TestP32_2ParseErrors(t *testing.T) {
	for _, line := range []string{
		"", " ", "x", "3", "3:", "3: ", "3 up g 1", "3:up g 1", "3:  up g 1", "3: up  g 1", "3: up g  1", "3: up g 1 ", " 3: up g 1", "3: up g 1 2", "3: up g 1\r", "3: up\tg 1",
		"03: up g 1", "3: up g 01", "3: up g +1", "3: up g 0", "3: up g 201", "3: up g", "3: up 1", "3: up", "-1: up g 1", "+3: up g 1", ": up g 1", "x: up g 1", "1099511627777: up g 1", "99999999999999999999: up g 1",
		"3: down g-1 0", "3: down g-1 1", "3: down", "3: down ", "3: unhealthy ", "3: unhealthy g", "3: unhealthy 0", "3: unhealthy 1", "3: up (g 1", "3: up \"g\" 1", "3: Up g 1", "3: up g 1x", "3: up g 99999999999999999999",
		"3: down a\xff", "3: down " + strings.Repeat("x", 65),
	} {
		for n, before := range []string{"", "1: up g 1\n", "1: up g 1\n2: unhealthy\n"} {
			if got, e, at := trace.Parse(before + line + "\n9: x"); len(got) != 0 || e != api.ErrForm || at != n+1 {
				t.Errorf("%q: %v %d %d", before+line, got, e, at)
			}
		}
	}
	if _, e, at := trace.Parse("1: up g 1\n\n"); e != api.ErrForm || at != 2 {
		t.Error("an empty line", e, at)
	}
}

func TestP32_3CallsAndAdded(t *testing.T) {
	var l []trace.Event
	for _, what := range counted {
		l = append(l, ev(1, what, "g", 5))
	}
	for _, what := range named {
		l = append(l, ev(2, what, "g", 0))
	}
	l = append(l, ev(3, "unhealthy", "", 0), ev(3, "up", "h", 7), ev(4, "up", "g", 100))
	if got := trace.Calls(l); got != 7 {
		t.Error(got)
	}
	for name, want := range map[string]int{"g": 110, "h": 7, "x": 0} {
		if got := trace.Added(l, name); got != want {
			t.Error(name, got)
		}
	}
	if trace.Calls(nil) != 0 || trace.Added(nil, "g") != 0 {
		t.Error("no events")
	}
}

// events parses lines that are separated by commas.
func events(t *testing.T, s string) []trace.Event {
	t.Helper()
	l, e, at := trace.Parse(strings.ReplaceAll(s, ", ", "\n"))
	if e != api.OK {
		t.Fatal(s, at)
	}
	return l
}

func TestP32_4Check(t *testing.T) {
	for s, want := range map[string]int{
		"": -1,
		"4: down g-1, 5: delete g-1, 6: gone g-1": -1,
		"5: gone g-1":          0,
		"5: keep g-1":          0,
		"5: stop g-1":          0,
		"5: delete g-1":        0,
		"1: up g 1, 0: up g 1": 1,
		"1: up g 1, 1: up g 1, 5: unhealthy, 4: unhealthy":                          3,
		"1: down g-1, 1: down g-2, 2: down g-1":                                     2,
		"1: down g-1, 2: keep g-1, 3: down g-1, 3: stop g-1, 4: down g-1":           -1,
		"1: down g-1, 2: keep g-1, 3: keep g-1":                                     2,
		"1: down g-1, 2: stop g-1, 3: delete g-1":                                   2,
		"1: down g-1, 2: delete g-1, 3: delete g-1":                                 2,
		"1: down g-1, 2: delete g-1, 3: down g-1":                                   2,
		"1: down g-1, 2: delete g-1, 3: keep g-1, 4: down g-1, 5: delete g-1":       -1,
		"1: down g-1, 2: delete g-1, 3: gone g-1, 4: delete g-1":                    3,
		"1: down g-1, 2: delete g-2":                                                1,
		"1: down g-1, 2: gone g-1, 2: gone g-1":                                     2,
		"1: down a, 1: evict a, 1: clean a, 1: hopeless a, 1: refused a, 1: up a 1": -1,
		"1: clean g-1, 1: clean g-1, 1: evict p, 1: evict p, 2: hopeless p":         -1,
		"1: down a, 2: up a 1, 3: delete a":                                         -1,
	} {
		if got := trace.Check(events(t, s)); got != want {
			t.Error(s, got)
		}
	}
	if got := trace.Check([]trace.Event{ev(1, "up", "g", 1), ev(2, "up", "g", 0), ev(0, "x", "", 0)}); got != 1 {
		t.Error("an event that is not valid", got)
	}
	if got := trace.Check([]trace.Event{ev(-1, "unhealthy", "", 0)}); got != 0 {
		t.Error("an event that is not valid", got)
	}
}

func TestP32_5Properties(t *testing.T) {
	l := events(t, "1: up g 1, 2: down g-1, 2: unhealthy, 3: delete g-1, 4: delete g-1, 5: gone g-1")
	got, e, at := trace.Parse(trace.Show(l))
	if !slices.Equal(got, l) || e != api.OK || at != 0 {
		t.Error(got, e, at)
	}
	first := trace.Check(l)
	if first != 4 || trace.Check(l[:first]) != -1 || trace.Check(l[:first+1]) != first {
		t.Error(first)
	}
}
