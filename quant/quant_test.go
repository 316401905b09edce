package quant_test

import (
	"math"
	"strconv"
	"strings"
	"testing"

	"trireme/api"
	"trireme/quant"
)

const max = api.MaxRes

type result struct {
	n int
	e api.Errno
}

func check(t *testing.T, name string, f func(string) (int, api.Errno), cases map[string]result) {
	t.Helper()
	for s, want := range cases {
		if n, e := f(s); n != want.n || e != want.e {
			t.Errorf("%s(%.40q) = %d, %d; want %d, %d", name, s, n, e, want.n, want.e)
		}
	}
}

func TestP3_1Number(t *testing.T) {
	zeros := strings.Repeat("0", 100)
	check(t, "Number", quant.Number, map[string]result{
		"0": {0, 0}, "7": {7, 0}, "007": {7, 0}, "1024": {1024, 0}, zeros + "12": {12, 0}, zeros: {0, 0},
		strconv.Itoa(max): {max, 0}, strconv.Itoa(max + 1): {0, api.ErrOver},
		"9223372036854775807": {0, api.ErrOver}, "9223372036854775808": {0, api.ErrOver}, "18446744073709551617": {0, api.ErrOver},
		"1" + zeros: {0, api.ErrOver},
		"":          {0, api.ErrNumber}, "-1": {0, api.ErrNumber}, "+1": {0, api.ErrNumber}, "1k": {0, api.ErrNumber}, "1.0": {0, api.ErrNumber},
		" 1": {0, api.ErrNumber}, "1 ": {0, api.ErrNumber}, "1m": {0, api.ErrNumber}, "x": {0, api.ErrNumber}, "١": {0, api.ErrNumber}, "0x1": {0, api.ErrNumber},
		"1" + zeros + "x": {0, api.ErrNumber},
	})
}

func TestP3_2Parse(t *testing.T) {
	zeros := strings.Repeat("0", 100)
	check(t, "Parse", quant.Parse, map[string]result{
		"0": {0, 0}, "12": {12, 0}, "0012": {12, 0}, "1.0": {1, 0}, "1.000": {1, 0},
		"1Ki": {1024, 0}, "1Mi": {1 << 20, 0}, "3Gi": {3 << 30, 0}, "2Ti": {2 << 40, 0},
		"1k": {1000, 0}, "1M": {1000000, 0}, "1G": {1000000000, 0}, "1T": {1000000000000, 0},
		"1.5Ki": {1536, 0}, "0.125Ki": {128, 0}, "1.25k": {1250, 0}, "1.001k": {1001, 0}, "2.5Ti": {5 << 39, 0}, "0.5Mi": {1 << 19, 0},
		"3000m": {3, 0}, "0m": {0, 0}, "1000.0m": {1, 0}, zeros + "1Ki": {1024, 0},
		"1024Ti": {max, 0}, "1125.899906842624T": {0, api.ErrNumber}, "1125899906842624": {max, 0}, "1125899906842624000m": {max, 0},
		"1125899906842625": {0, api.ErrOver}, "1025Ti": {0, api.ErrOver}, "1024.5Ti": {0, api.ErrOver}, "1126T": {0, api.ErrOver},
		"1125899906842625000m": {0, api.ErrOver}, "1" + zeros: {0, api.ErrOver}, "1" + zeros + "Ti": {0, api.ErrOver}, "9223372036854775808Ti": {0, api.ErrOver},
		"1" + zeros + "m": {0, api.ErrOver}, "1" + zeros + ".5k": {0, api.ErrOver},
		"1" + zeros + ".5": {0, api.ErrNumber}, "1" + zeros + "1m": {0, api.ErrNumber}, "1" + zeros + ".5m": {0, api.ErrNumber},
		"1m": {0, api.ErrNumber}, "1500m": {0, api.ErrNumber}, "0.5": {0, api.ErrNumber}, "1.001": {0, api.ErrNumber}, "0.1Ki": {0, api.ErrNumber},
		"1000.5m": {0, api.ErrNumber}, "1000.001m": {0, api.ErrNumber},
		"": {0, api.ErrNumber}, "-1": {0, api.ErrNumber}, "Ki": {0, api.ErrNumber}, ".5": {0, api.ErrNumber}, "1.": {0, api.ErrNumber}, "1.Ki": {0, api.ErrNumber},
		"1.0000": {0, api.ErrNumber}, "1.0000x": {0, api.ErrNumber}, " 1": {0, api.ErrNumber},
		"1x": {0, api.ErrUnit}, "1.5x": {0, api.ErrUnit}, "1K": {0, api.ErrUnit}, "1ki": {0, api.ErrUnit}, "1Kii": {0, api.ErrUnit}, "1 ": {0, api.ErrUnit},
		"1 Ki": {0, api.ErrUnit}, "1.5.5": {0, api.ErrUnit}, "1mm": {0, api.ErrUnit}, "1" + zeros + "x": {0, api.ErrUnit}, "0.5.": {0, api.ErrUnit},
	})
}

func TestP3_2Milli(t *testing.T) {
	zeros := strings.Repeat("0", 100)
	check(t, "Milli", quant.Milli, map[string]result{
		"250m": {250, 0}, "2": {2000, 0}, "0.5": {500, 0}, "0.001": {1, 0}, "1.25": {1250, 0}, "1.2": {1200, 0}, "0": {0, 0}, "007m": {7, 0},
		"1k": {1000000, 0}, "1.5Ki": {1536000, 0}, "0.001Ki": {1024, 0}, "1Ti": {1000 << 40, 0}, "1T": {1000000000000000, 0},
		"1125899906842624m": {max, 0}, "1125899906842.624": {max, 0},
		"1125899906842625m": {0, api.ErrOver}, "1125899906842.625": {0, api.ErrOver}, "2Ti": {0, api.ErrOver}, "1" + zeros: {0, api.ErrOver}, "1" + zeros + "m": {0, api.ErrOver},
		"0.5m": {0, api.ErrNumber}, "1.001m": {0, api.ErrNumber}, "1" + zeros + ".1m": {0, api.ErrNumber},
		"1.0001": {0, api.ErrNumber}, "": {0, api.ErrNumber}, "m": {0, api.ErrNumber}, "-2": {0, api.ErrNumber}, "1.": {0, api.ErrNumber},
		"2x": {0, api.ErrUnit}, "1.5 m": {0, api.ErrUnit}, "1MI": {0, api.ErrUnit},
		"1.0m": {1, 0},
	})
}

func TestP3_3Show(t *testing.T) {
	for n, want := range map[int]string{
		0: "0", 1: "1", 1000: "1000", 1023: "1023", 1024: "1Ki", 1536: "1536", 2048: "2Ki", 1 << 20: "1Mi", 3 << 19: "1536Ki", 5 << 30: "5Gi",
		1 << 40: "1Ti", 1<<40 + 1024: "1073741825Ki", max: "1024Ti", max - 1: "1125899906842623",
		-1: "", max + 1: "", math.MaxInt: "", math.MinInt: "",
	} {
		if got := quant.Show(n); got != want {
			t.Errorf("Show(%d) = %q", n, got)
		}
	}
	for n, want := range map[int]string{
		0: "0", 1: "1m", 250: "250m", 1000: "1", 1500: "1500m", 2000: "2", 1000000: "1000", max: "1125899906842624m", 1125899906842000: "1125899906842",
		-1: "", -1000: "", max + 1: "", math.MaxInt: "", math.MinInt: "",
	} {
		if got := quant.ShowMilli(n); got != want {
			t.Errorf("ShowMilli(%d) = %q", n, got)
		}
	}
}

func TestP3_4WhatIsShownIsParsedAgain(t *testing.T) {
	for _, n := range []int{0, 1, 999, 1000, 1023, 1024, 4096, 1 << 30, 3 << 40, 123456789, 1000000000000, max - 1, max} {
		if m, e := quant.Parse(quant.Show(n)); m != n || e != api.OK {
			t.Errorf("Parse(%q) = %d, %d", quant.Show(n), m, e)
		}
		if m, e := quant.Milli(quant.ShowMilli(n)); m != n || e != api.OK {
			t.Errorf("Milli(%q) = %d, %d", quant.ShowMilli(n), m, e)
		}
	}
}
