package res_test

import (
	"math"
	"testing"

	"trireme/api"
	"trireme/res"
)

const most = api.MaxRes

var (
	none  = api.Res{}
	full  = api.Res{Cpu: most, Mem: most, Disk: most, Pods: most, Dev: most}
	some  = api.Res{Cpu: 1, Mem: 2, Disk: 3, Pods: 4, Dev: 5}
	wrong = []api.Res{{Cpu: -1}, {Mem: -1}, {Disk: -1}, {Pods: -1}, {Dev: -1}, {Cpu: most + 1}, {Mem: most + 1}, {Disk: most + 1}, {Pods: most + 1}, {Dev: math.MaxInt}, {Cpu: math.MinInt}}
	units = []api.Res{{Cpu: 1}, {Mem: 1}, {Disk: 1}, {Pods: 1}, {Dev: 1}}
)

func TestP4_1Right(t *testing.T) {
	for _, a := range append([]api.Res{none, full, some}, units...) {
		if !res.Right(a) {
			t.Error(a)
		}
	}
	for _, a := range wrong {
		if res.Right(a) {
			t.Error(a)
		}
		for _, p := range [][2]api.Res{{a, some}, {some, a}} {
			if r, e := res.Add(p[0], p[1]); r != none || e != api.ErrArg {
				t.Error("Add", a, r, e)
			}
			if r, e := res.Sub(p[0], p[1]); r != none || e != api.ErrArg {
				t.Error("Sub", a, r, e)
			}
			if res.Fits(p[0], p[1]) || res.Least(p[0], p[1]) != none || res.How(p[0], p[1]) != 0 || res.Share(p[0], p[1]) != 0 {
				t.Error("Fits, Least, How or Share", a)
			}
		}
		if r, e := res.Times(a, 0); r != none || e != api.ErrArg {
			t.Error("Times", a, r, e)
		}
	}
}

func TestP4_2AddSubTimes(t *testing.T) {
	b := api.Res{Cpu: 10, Mem: 20, Disk: 30, Pods: 40, Dev: 50}
	if r, e := res.Add(some, b); r != (api.Res{Cpu: 11, Mem: 22, Disk: 33, Pods: 44, Dev: 55}) || e != api.OK {
		t.Error(r, e)
	}
	if r, e := res.Sub(b, some); r != (api.Res{Cpu: 9, Mem: 18, Disk: 27, Pods: 36, Dev: 45}) || e != api.OK {
		t.Error(r, e)
	}
	if r, e := res.Times(some, 3); r != (api.Res{Cpu: 3, Mem: 6, Disk: 9, Pods: 12, Dev: 15}) || e != api.OK {
		t.Error(r, e)
	}
	if r, e := res.Add(full, none); r != full || e != api.OK {
		t.Error(r, e)
	}
	if r, e := res.Sub(full, full); r != none || e != api.OK {
		t.Error(r, e)
	}
	if r, e := res.Times(full, 1); r != full || e != api.OK {
		t.Error(r, e)
	}
	if r, e := res.Times(full, 0); r != none || e != api.OK {
		t.Error(r, e)
	}
	if r, e := res.Times(none, math.MaxInt); r != none || e != api.OK {
		t.Error(r, e)
	}
	for _, u := range units {
		if r, e := res.Add(full, u); r != none || e != api.ErrOver {
			t.Error("Add", u, r, e)
		}
		if r, e := res.Sub(none, u); r != none || e != api.ErrUnder {
			t.Error("Sub", u, r, e)
		}
		if r, e := res.Times(u, most); e != api.OK || res.Fits(r, none) {
			t.Error("Times", u, r, e)
		}
		for _, n := range []int{most + 1, math.MaxInt} {
			if r, e := res.Times(u, n); r != none || e != api.ErrOver {
				t.Error("Times", u, n, r, e)
			}
		}
		for _, n := range []int{-1, math.MinInt} {
			if r, e := res.Times(u, n); r != none || e != api.ErrArg {
				t.Error("Times", u, n, r, e)
			}
		}
	}
	if r, e := res.Times(full, 1<<14); r != none || e != api.ErrOver {
		t.Error("a product that overflows", r, e)
	}
}

func TestP4_3Fits(t *testing.T) {
	if !res.Fits(some, some) || !res.Fits(none, none) || !res.Fits(some, full) || res.Fits(full, some) {
		t.Error("Fits")
	}
	for _, u := range units {
		more, _ := res.Add(some, u)
		if res.Fits(more, some) || !res.Fits(some, more) {
			t.Error(u)
		}
	}
}

func TestP4_3LeastAndHow(t *testing.T) {
	a := api.Res{Cpu: 1, Mem: 20, Disk: 3, Pods: 40, Dev: 5}
	b := api.Res{Cpu: 10, Mem: 2, Disk: 30, Pods: 4, Dev: 50}
	if r := res.Least(a, b); r != some {
		t.Error(r)
	}
	for _, c := range []struct {
		a, b api.Res
		want int
	}{
		{api.Res{Cpu: 300}, api.Res{Cpu: 1000}, 3},
		{api.Res{Cpu: 300, Dev: 1}, api.Res{Cpu: 1000, Dev: 2}, 2},
		{some, api.Res{Cpu: 9, Mem: 9, Disk: 9, Pods: 9, Dev: 9}, 1},
		{api.Res{Pods: 1}, api.Res{Pods: 400}, 400},
		{api.Res{Pods: 1}, api.Res{Pods: 401}, 400},
		{none, none, 400},
		{none, some, 400},
		{some, none, 0},
		{full, full, 1},
		{api.Res{Disk: 2}, api.Res{Cpu: 100, Disk: 1}, 0},
	} {
		if n := res.How(c.a, c.b); n != c.want {
			t.Error(c.a, c.b, n)
		}
	}
}

func TestP4_4Share(t *testing.T) {
	for _, c := range []struct {
		a, b api.Res
		want int
	}{
		{api.Res{Cpu: 250}, api.Res{Cpu: 1000, Mem: 10}, 250},
		{api.Res{Cpu: 250, Mem: 9}, api.Res{Cpu: 1000, Mem: 10}, 900},
		{api.Res{Cpu: 2}, api.Res{Cpu: 3}, 666},
		{api.Res{Disk: 5, Pods: 5, Dev: 5}, api.Res{Disk: 5, Pods: 5, Dev: 5}, 0},
		{none, none, 0},
		{api.Res{Cpu: 1}, none, 1000000},
		{api.Res{Mem: 1}, api.Res{Cpu: 1}, 1000000},
		{api.Res{Cpu: 5000}, api.Res{Cpu: 1}, 1000000},
		{api.Res{Cpu: 1000}, api.Res{Cpu: 1}, 1000000},
		{api.Res{Cpu: 999}, api.Res{Cpu: 1}, 999000},
		{full, full, 1000},
		{full, api.Res{Cpu: 1, Mem: 1}, 1000000},
		{api.Res{Cpu: 1500}, api.Res{Cpu: 1000}, 1500},
	} {
		if n := res.Share(c.a, c.b); n != c.want {
			t.Error(c.a, c.b, n)
		}
	}
}

func TestP4_5Properties(t *testing.T) {
	all := []api.Res{none, some, {Cpu: 7}, {Cpu: 3, Mem: 9, Pods: 1}, {Dev: most}, full}
	for _, a := range all {
		for _, b := range all {
			if sum, e := res.Add(a, b); e == api.OK {
				if back, e := res.Sub(sum, b); e != api.OK || back != a {
					t.Error("Sub of the sum", a, b)
				}
			}
			if _, e := res.Sub(b, a); res.Fits(a, b) != (e == api.OK) {
				t.Error("Fits and Sub", a, b)
			}
			if r, e := res.Times(a, res.How(a, b)); e != api.OK || !res.Fits(r, b) {
				t.Error("Times How", a, b)
			}
		}
	}
}
