package ledger_test

import (
	"testing"

	"trireme/api"
	"trireme/ledger"
)

func of(name string, price int) api.Group {
	return api.Group{Name: name, Max: 9, Price: price, Like: api.Machine{Group: name, Ready: true}}
}

func inst(group string, state int) api.Inst { return api.Inst{Group: group, State: state} }

func insts(group string, n int) []api.Inst {
	var l []api.Inst
	for range n {
		l = append(l, inst(group, api.Running))
	}
	return l
}

func fresh(t *testing.T, gs ...api.Group) *ledger.Table {
	t.Helper()
	x, e := ledger.New(gs)
	if e != api.OK {
		t.Fatal(e)
	}
	return x
}

// check checks what is recorded of a group.
func check(t *testing.T, x *ledger.Table, name string, sum, peak int, mean float64) {
	t.Helper()
	if x.Sum(name) != sum || x.Peak(name) != peak || x.Mean(name) != mean {
		t.Errorf("%s: got %d %d %v, want %d %d %v", name, x.Sum(name), x.Peak(name), x.Mean(name), sum, peak, mean)
	}
}

func TestNoObject(t *testing.T) {
	for _, x := range []*ledger.Table{nil, {}} {
		x.Add(insts("g", 1))
		check(t, x, "g", 0, 0, 0)
		if x.Ticks() != 0 || x.Total() != 0 || x.Copy() != nil {
			t.Error("a result of an object that is none")
		}
	}
}

func TestP35_1NewAddTicks(t *testing.T) {
	if x, e := ledger.New([]api.Group{of("g", 1), of("g", 2)}); x != nil || e != api.ErrForm {
		t.Error(e)
	}
	if x, e := ledger.New([]api.Group{{}}); x != nil || e != api.ErrForm {
		t.Error(e)
	}
	gs := []api.Group{of("g", 5), of("h", 7)}
	x := fresh(t, gs...)
	gs[0].Name, gs[0].Price = "changed", 9
	check(t, x, "g", 0, 0, 0)
	if x.Ticks() != 0 || x.Total() != 0 {
		t.Error(x.Ticks(), x.Total())
	}
	x.Add([]api.Inst{inst("g", api.Creating), inst("g", api.Running), inst("g", api.Failed), inst("g", api.Leaving), inst("h", api.Leaving), inst("x", api.Running), inst("g", 0)})
	check(t, x, "g", 20, 4, 4)
	check(t, x, "h", 0, 0, 0)
	x.Add(nil)
	if x.Ticks() != 2 {
		t.Error(x.Ticks())
	}
	check(t, x, "g", 20, 4, 2)
	if e := fresh(t); e.Ticks() != 0 || e.Total() != 0 {
		t.Error("a table without groups")
	}
}

func TestP35_2SumPeakTotal(t *testing.T) {
	x := fresh(t, of("g", 5), of("h", 100), of("free", 0))
	x.Add(insts("g", 2))
	x.Add(append(insts("g", 1), insts("h", 3)...))
	x.Add(append(insts("h", 1), insts("free", 6)...))
	check(t, x, "g", 15, 2, 1)
	check(t, x, "h", 400, 3, 4.0/3)
	check(t, x, "free", 0, 6, 2)
	check(t, x, "unknown", 0, 0, 0)
	check(t, x, "", 0, 0, 0)
	if x.Total() != 415 {
		t.Error(x.Total())
	}
}

func TestP35_2SumsAreAtMostMaxRes(t *testing.T) {
	x := fresh(t, of("g", api.MaxRes), of("h", api.MaxRes/2+1), of("k", 3))
	x.Add(append(insts("h", 1), insts("k", 1)...))
	check(t, x, "h", api.MaxRes/2+1, 1, 1)
	if x.Total() != api.MaxRes/2+4 {
		t.Error(x.Total())
	}
	x.Add(append(insts("h", 1), insts("g", 1)...))
	check(t, x, "h", api.MaxRes, 1, 1)
	check(t, x, "g", api.MaxRes, 1, 0.5)
	for range 9 {
		x.Add(insts("g", 2000))
	}
	check(t, x, "g", api.MaxRes, 2000, 18001.0/11)
	check(t, x, "k", 3, 1, 1.0/11)
	if x.Total() != api.MaxRes {
		t.Error(x.Total())
	}
}

func TestP35_3MeanAndCopy(t *testing.T) {
	x := fresh(t, of("g", 5))
	x.Add(insts("g", 2))
	x.Add(insts("g", 1))
	check(t, x, "g", 15, 2, 1.5)
	y := x.Copy()
	x.Add(insts("g", 6))
	check(t, x, "g", 45, 6, 3)
	check(t, y, "g", 15, 2, 1.5)
	y.Add(nil)
	y.Add(nil)
	check(t, y, "g", 15, 2, 0.75)
	check(t, x, "g", 45, 6, 3)
	if z := y.Copy(); z.Ticks() != 4 || x.Ticks() != 3 || z.Total() != 15 {
		t.Error(z.Ticks(), x.Ticks(), z.Total())
	}
}

func TestP35_4Properties(t *testing.T) {
	x := fresh(t, of("g", 5), of("h", 1<<48))
	last := 0
	for i := range 30 {
		x.Add(append(insts("g", i*7%5), insts("h", i%2)...))
		for _, name := range []string{"g", "h"} {
			if float64(x.Peak(name)) < x.Mean(name) {
				t.Error("the peak is below the mean", name, i)
			}
		}
		if x.Total() < last {
			t.Error("the total decreased", i)
		}
		last = x.Total()
	}
}
