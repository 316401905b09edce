package expand_test

import (
	"math"
	"testing"

	"trireme/api"
	"trireme/expand"
)

func opt(waste, rank, price, pods int) api.Option {
	return api.Option{Waste: waste, Rank: rank, Price: price, Pods: make([]string, pods)}
}

func TestP21_1Better(t *testing.T) {
	a := opt(100, 5, 50, 3)
	for i, c := range []struct {
		b    api.Option
		want [7]bool // for how from -1 to 5: whether b is better than a
	}{
		{a, [7]bool{}},
		{opt(99, 5, 50, 3), [7]bool{2: true, 3: true}},
		{opt(101, 5, 50, 3), [7]bool{}},
		{opt(100, 6, 50, 3), [7]bool{3: true}},
		{opt(200, 6, 50, 3), [7]bool{3: true}},
		{opt(1, 4, 50, 3), [7]bool{2: true}},
		{opt(100, 5, 49, 3), [7]bool{4: true}},
		{opt(100, 5, 49, 1), [7]bool{4: true}},
		{opt(100, 5, 50, 4), [7]bool{4: true}},
		{opt(100, 5, 51, 9), [7]bool{}},
		{opt(100, 5, 50, 2), [7]bool{}},
	} {
		for how := -1; how <= 5; how++ {
			if got := expand.Better(c.b, a, how); got != c.want[how+1] {
				t.Error(i, how, got)
			}
		}
	}
	counted := opt(100, 5, 50, 3)
	counted.Count, counted.Group = 1, "a"
	for how := range 6 {
		if expand.Better(counted, a, how) || expand.Better(a, counted, how) {
			t.Error("Count and Group do not matter", how)
		}
	}
}

func TestP21_2Choose(t *testing.T) {
	l := []api.Option{opt(300, 1, 9, 1), opt(100, 0, 7, 1), opt(100, 2, 7, 2), opt(50, 1, 8, 5), opt(200, 2, 7, 2), opt(50, 0, 9, 9)}
	for how, want := range map[int]int{api.LeastWaste: 3, api.ByRank: 2, api.ByPrice: 2, 0: -1, 5: -1, -1: -1} {
		if got := expand.Choose(l, how, 7); got != want {
			t.Error(how, got)
		}
		if got := expand.Choose(nil, how, 7); got != -1 {
			t.Error("no options", how, got)
		}
	}
	if got := expand.Choose(l[:3], api.LeastWaste, 0); got != 1 {
		t.Error("the first of two equal options", got)
	}
	if expand.Choose(nil, api.ByChance, 7) != -1 {
		t.Error("no options")
	}
	for _, seed := range []int{0, 1, 2, 99, 1<<31 - 1, -1, 1 << 31, math.MinInt} {
		for n := 1; n <= len(l); n++ {
			if got := expand.Choose(l[:n], api.ByChance, seed); got != expand.Next(seed)%n {
				t.Error("by chance", seed, n, got)
			}
		}
	}
}

func TestP21_3Next(t *testing.T) {
	for seed, want := range map[int]int{
		0: 12345, 1: 1103527590, 12345: 1406932606, 1<<31 - 1: 1043980748, 2: 59559187,
		-1: 12345, 1 << 31: 12345, math.MaxInt: 12345, math.MinInt: 12345,
	} {
		if got := expand.Next(seed); got != want {
			t.Error(seed, got)
		}
	}
}

func TestP21_4Properties(t *testing.T) {
	l := []api.Option{opt(3, 1, 9, 1), opt(1, 0, 7, 1), opt(1, 2, 7, 2), opt(5, 1, 8, 5), opt(2, 2, 7, 2)}
	for how := 1; how <= 4; how++ {
		for turn := range l {
			other := append(append([]api.Option{}, l[turn:]...), l[:turn]...)
			i, j := expand.Choose(l, how, turn), expand.Choose(other, how, turn)
			if i < 0 || i >= len(l) || j < 0 || j >= len(l) {
				t.Fatal("no valid index", how, i, j)
			}
			if how == api.ByChance {
				continue
			}
			if expand.Better(l[i], other[j], how) || expand.Better(other[j], l[i], how) {
				t.Error("not equally good", how, turn)
			}
			for _, o := range l {
				if expand.Better(o, l[i], how) {
					t.Error("there is a better one", how)
				}
			}
		}
	}
}
