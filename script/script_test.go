package script_test

import (
	"math"
	"reflect"
	"strings"
	"testing"

	"trireme/api"
	"trireme/script"
	"trireme/tree"
)

const head = "(delay 1) (conf (how 1) (first 1) (most 1) (reset 1) (batch 1) (share 1000)) "

func nodes(t *testing.T, s string) []api.Node {
	t.Helper()
	l, e, at := tree.Parse(s)
	if e != api.OK {
		t.Fatalf("%q: %d at %d", s, e, at)
	}
	return l
}

func TestP31_1Conf(t *testing.T) {
	full := "x (conf (batch 100) (how 4) (seed 2147483647) (nodes 5) (cpu 6) (mem 7) (use 8) (long 9) (calm 10) (grace 11) (wait 12) (share 13) (first 14) (most 15) (reset 016) (even))"
	want := api.Conf{How: 4, Seed: 2147483647, Caps: api.Caps{Nodes: 5, Cpu: 6, Mem: 7}, Use: 8, Long: 9, Calm: 10, Grace: 11, Wait: 12, Share: 13, First: 14, Most: 15, Reset: 16, Batch: 100, Even: true}
	if c, e, at := script.Conf(nodes(t, full), 1); c != want || e != api.OK || at != 0 {
		t.Error(c, e, at)
	}
	if c, e, at := script.Conf(nodes(t, "(conf (how 1) (first 1) (most 2) (reset 3) (batch 4))"), 0); c != (api.Conf{How: 1, First: 1, Most: 2, Reset: 3, Batch: 4}) || e != api.OK || at != 0 {
		t.Error(c, e, at)
	}
}

// mark removes the mark ^ from the text and returns its place, or 0.
func mark(s string) (string, int) {
	return strings.Replace(s, "^", "", 1), max(strings.Index(s, "^"), 0)
}

func TestP31_1ConfErrors(t *testing.T) {
	for _, c := range []struct {
		s string
		e api.Errno
	}{
		{" ^x", api.ErrForm}, {" ^()", api.ErrForm}, {" ^(confs)", api.ErrForm}, {" ^(\"conf\")", api.ErrForm}, {" ^((conf))", api.ErrForm}, {" ^\"conf\"", api.ErrForm},
		{"(conf ^how)", api.ErrField}, {"(conf ^())", api.ErrField}, {"(conf ^(hows 1))", api.ErrField}, {"(conf ^(\"how\" 1))", api.ErrField}, {"(conf ^even)", api.ErrField}, {"(conf ^\"\")", api.ErrField},
		{"(conf (how 1) ^(how 2))", api.ErrField}, {"(conf (even) ^(even))", api.ErrField}, {"(conf (how 1) ^(how))", api.ErrField}, {"(conf ^(caps 1))", api.ErrField}, {"(conf ^((how) 1))", api.ErrField},
		{"(conf ^(how))", api.ErrForm}, {"(conf ^(how 1 2))", api.ErrForm}, {"(conf ^(even 1))", api.ErrForm}, {"(conf ^(how x y))", api.ErrForm},
		{"(conf (how ^\"1\"))", api.ErrKind}, {"(conf (how ^()))", api.ErrKind}, {"(conf (how ^x))", api.ErrNumber}, {"(conf (how ^-1))", api.ErrNumber}, {"(conf (seed ^2000000000000000))", api.ErrOver},
		{"(conf (seed 1) (how ^1k) x)", api.ErrNumber},
		{" ^(conf)", api.ErrArg}, {" ^(conf (how 5) (first 1) (most 1) (reset 1) (batch 1))", api.ErrArg}, {" ^(conf (how 1) (first 2) (most 1) (reset 1) (batch 1))", api.ErrArg},
	} {
		s, place := mark(c.s)
		if got, e, at := script.Conf(nodes(t, s), 0); got != (api.Conf{}) || e != c.e || at != place {
			t.Errorf("%s: got %d at %d, want %d at %d", s, e, at, c.e, place)
		}
	}
	l := nodes(t, " (conf)")
	for _, i := range []int{-1, 2, math.MaxInt, math.MinInt} {
		if c, e, at := script.Conf(l, i); c != (api.Conf{}) || e != api.ErrForm || at != 0 {
			t.Error(i, e, at)
		}
	}
	l[0].Kids = 9
	if _, e, at := script.Conf(l, 0); e != api.ErrForm || at != 0 {
		t.Error("no complete tree", e, at)
	}
}

// wrong checks the error of a script at the mark, or at 0.
func wrong(t *testing.T, s string, want api.Errno) {
	t.Helper()
	s, place := mark(s)
	if e, at := script.Check(s); e != want || at != place {
		t.Errorf("Check %s: got %d at %d, want %d at %d", s, e, at, want, place)
	}
	if out, e, at := script.Run(s); out != "" || e != want || at != place {
		t.Errorf("Run %s: got %q %d at %d, want %d at %d", s, out, e, at, want, place)
	}
}

func TestP31_2ErrorsOfTheText(t *testing.T) {
	wrong(t, head+"^\x01", api.ErrChar)
	wrong(t, head+"^(show", api.ErrOpen)
	wrong(t, head+"show ^)", api.ErrClose)
	wrong(t, "x ^(tick 1", api.ErrOpen)
}

func TestP31_2ErrorsOfTheHead(t *testing.T) {
	conf := strings.TrimPrefix(head, "(delay 1) ")
	wrong(t, "", api.ErrForm)
	wrong(t, "  ; nothing^", api.ErrForm)
	wrong(t, "(delay 1) ^", api.ErrForm)
	wrong(t, "(delay ^x)", api.ErrNumber)
	wrong(t, " ^"+conf+"(delay 1)", api.ErrForm)
	wrong(t, " ^show", api.ErrForm)
	wrong(t, " ^(delay)"+conf, api.ErrForm)
	wrong(t, " ^(delay x y)"+conf, api.ErrForm)
	wrong(t, "(delay ^\"1\")"+conf, api.ErrKind)
	wrong(t, "(delay ^())"+conf, api.ErrKind)
	wrong(t, "(delay ^2000000000000000)"+conf, api.ErrOver)
	wrong(t, "(delay 1) ^show", api.ErrForm)
	wrong(t, "(delay 1) ^(delay 1)", api.ErrForm)
	wrong(t, "(delay 1) ^(group g (size 0 1))", api.ErrForm)
	wrong(t, "(delay 1) ^(conf)", api.ErrArg)
	wrong(t, "(delay 1) (conf (how ^x))", api.ErrNumber)
	wrong(t, "(delay 1) (conf ^(x))", api.ErrField)
	wrong(t, head+"^(delay 1)", api.ErrForm)
	wrong(t, head+"^(conf)", api.ErrForm)
}

func TestP31_2ErrorsOfGroupsAndBudgets(t *testing.T) {
	group, budget := "(group g (size 0 2)) ", "(budget b 1 app x) "
	wrong(t, head+"^(group g)", api.ErrForm)
	wrong(t, head+"(group g ^(x))", api.ErrField)
	wrong(t, head+"(group g (size 1 ^1x))", api.ErrNumber)
	wrong(t, head+budget+"^"+group, api.ErrForm)
	wrong(t, head+"show ^"+group, api.ErrForm)
	wrong(t, head+"show ^"+budget, api.ErrForm)
	wrong(t, head+"(tick 1) ^"+group, api.ErrForm)
	wrong(t, head+group+"^(budget b 1 app)", api.ErrForm)
	wrong(t, head+group+"^(budget b x app y z)", api.ErrForm)
	wrong(t, head+group+"(budget ^\"\" x app y)", api.ErrKind)
	wrong(t, head+group+"(budget b ^x \"\" y)", api.ErrNumber)
	wrong(t, head+group+"(budget b ^() \"\" y)", api.ErrKind)
	wrong(t, head+group+"(budget b 1 ^\"\" (y))", api.ErrKind)
	wrong(t, head+group+"(budget b 1 app ^\"y\")", api.ErrKind)
	wrong(t, head+group+"(budget b 1 app ^())", api.ErrKind)
	if e, at := script.Check(head + group + "(budget b 1 app \"\")"); e != api.OK || at != 0 {
		t.Error("an empty value is an atom", e, at)
	}
}

func TestP31_2ErrorsOfSteps(t *testing.T) {
	for _, s := range []string{"^x", "^(show)", "^(x a)", "^()", "^\"show\"", "^(\"tick\" 1)", "^tick", "^(evict p)", "^(pods)", "^(pod)", "^(machine m)"} {
		wrong(t, head+"show "+s, api.ErrForm)
	}
	for _, name := range []string{"drop", "ready", "unready", "hold", "free", "break", "mend", "fail"} {
		wrong(t, head+"^("+name+")", api.ErrForm)
		wrong(t, head+"^("+name+" a b)", api.ErrForm)
		wrong(t, head+"("+name+" ^\"a\")", api.ErrKind)
		wrong(t, head+"("+name+" ^())", api.ErrKind)
		wrong(t, head+"("+name+" ^\"\")", api.ErrKind)
		wrong(t, head+"^"+name, api.ErrForm)
	}
	for _, s := range []string{"^(tick)", "^(tick 1 2)", "^(tick 0)", "^(tick 101)", "^(tick x y)"} {
		wrong(t, head+s, api.ErrForm)
	}
	wrong(t, head+"(tick ^x)", api.ErrNumber)
	wrong(t, head+"(tick ^\"1\")", api.ErrKind)
	wrong(t, head+"(tick ^2000000000000000)", api.ErrOver)
	wrong(t, head+"(pod a ^(x))", api.ErrField)
	wrong(t, head+"^(pod a wide)", api.ErrForm)
	wrong(t, head+"(pod a (port ^x)) x", api.ErrNumber)
	wrong(t, head+"(tick 1) ^x (tick y)", api.ErrForm)
}

func TestP31_2ErrorsOfTheWorld(t *testing.T) {
	conf := strings.TrimPrefix(head, "(delay 1) ")
	wrong(t, "(delay 0)"+conf+"show", api.ErrArg)
	wrong(t, "(delay 1001)"+conf+"(group g (size 0 1)) (group g (size 0 1))", api.ErrForm)
	wrong(t, "(delay 1)"+conf+"(budget b 1 a x) (budget b 1 a y)", api.ErrForm)
	wrong(t, "(delay 1)"+conf+"(budget b 401 a x)", api.ErrForm)
	wrong(t, "(delay 1)"+conf+"(group g (size 0 200)) (group h (size 0 1))", api.ErrBig)
	wrong(t, "(delay 0)"+conf+"^x", api.ErrForm)
}

// prints checks what a script prints.
func prints(t *testing.T, s, want string) {
	t.Helper()
	if e, at := script.Check(s); e != api.OK || at != 0 {
		t.Errorf("Check: %d at %d", e, at)
	}
	out, e, at := script.Run(s)
	if out != want || e != api.OK || at != 0 {
		t.Errorf("got %q %d at %d, want %q", out, e, at, want)
	}
}

func TestP31_2Run(t *testing.T) {
	group := "(group g (size 0 2) (has 1 1Gi 0 5 0)) "
	prints(t, head, "")
	prints(t, head+"show", "")
	prints(t, head+"(tick 100) show (tick 1)", "")
	prints(t, head+group+"(pod a (need 500m 0 0 0)) (tick 2) show", "0: up g 1\ng-1: a\n")
	prints(t, head+group+"(pod a (need 500m 0 0 0)) (pod b) (pod c (need 700m 0 0 0)) (pod d (need 2 0 0 0)) show (tick 3) show",
		"pending: a b c d\n0: hopeless d\n0: up g 2\n1: hopeless d\n2: hopeless d\ng-1: a\ng-2: b c\npending: d\n")
}

func TestP31_2RunPrintsErrors(t *testing.T) {
	group := "(group g (size 1 3) (has 1 1Gi 0 5 0)) "
	prints(t, head+group+"(pod a) (pod a) (drop b) (drop a) (drop a) (ready x) (unready x) (hold x) (free x) (break x) (mend x) (fail x) show",
		"error 15\nerror 16\nerror 16\nerror 16\nerror 16\nerror 16\nerror 16\nerror 16\nerror 16\nerror 16\ng-1:\n")
	prints(t, head+group+"(hold g-1) (fail g-1) (break g) (mend g) (unready g-1) (ready g-1)", "error 22\nerror 22\n")
}

func TestP31_2RunMakesTheCalls(t *testing.T) {
	group := "(group g (size 1 3) (has 1 1Gi 0 5 0)) "
	a, b := "(pod a (need 900m 0 0 0)) ", "(pod b (need 900m 0 0 0)) "
	prints(t, head+group+"(unready g-1) "+a+"(tick 1) show", "0: up g 1\ng-1:\ng-2: a\n")
	prints(t, head+group+"(unready g-1) (ready g-1) "+a+"(tick 1) show", "g-1: a\n")
	prints(t, head+group+a+b+"(break g) (tick 1) (mend g) (tick 2) show", "0: refused g\n1: up g 1\ng-1: a\ng-2: b\n")
	wait := strings.Replace(head, "(share", "(wait 9) (share", 1)
	prints(t, strings.Replace(wait, "(delay 1)", "(delay 2)", 1)+group+a+b+"(tick 1) (fail g-2) (tick 1) show", "0: up g 1\n1: clean g-2\ng-1: a\npending: b\n")
	prints(t, strings.Replace(wait, "(delay 1)", "(delay 2)", 1)+group+a+b+"(tick 1) (hold g-2) (tick 3) show (free g-2) (tick 1) show", "0: up g 1\ng-1: a\npending: b\ng-1: a\ng-2: b\n")
	prints(t, head+group+a+"(tick 1) (drop a) show", "g-1:\n")
}

func TestP31_2RunRegardsDelayConfAndBudgets(t *testing.T) {
	start := "(delay 1) (conf (how 1) (use 700) (first 1) (most 1) (reset 1) (batch 1) (share 1000) (wait 9)) (group g (size 1 3) (has 1 1Gi 0 5 0)) "
	steps := "(pod a (need 600m 0 0 0) (label app x) (owner o)) (pod b (need 600m 0 0 0)) (tick 2) (drop b) (tick 3) show"
	prints(t, start+steps, "0: up g 1\n2: down g-1\n3: evict a\n3: delete g-1\n4: gone g-1\ng-2: a\n")
	prints(t, start+"(budget b 1 app x)"+steps, "0: up g 1\ng-1: a\ng-2:\n")
	prints(t, start+"(budget b 0 app x)"+steps, "0: up g 1\n2: down g-1\n3: evict a\n3: delete g-1\n4: gone g-1\ng-2: a\n")
	prints(t, start+"(budget b 1 app \"\")"+steps, "0: up g 1\n2: down g-1\n3: evict a\n3: delete g-1\n4: gone g-1\ng-2: a\n")
}

func TestP31_3Properties(t *testing.T) {
	steps := []string{"(pod a)", "show", "(drop x)", "(tick 3)", "(pod b (need 900m 0 0 0))", "show", "(tick 1)", "(unready g-1)", "(tick 5)", "show"}
	s, before := head+"(group g (size 0 3) (has 1 1Gi 0 5 0)) ", ""
	for _, x := range steps {
		s += x
		out, e, _ := script.Run(s)
		again, _, _ := script.Run(s)
		if e != api.OK || !strings.HasPrefix(out, before) || !reflect.DeepEqual(out, again) {
			t.Errorf("%q after %q", out, before)
		}
		before = out
		wrong(t, s+" ^x", api.ErrForm)
	}
	if before == "" {
		t.Error("nothing was printed")
	}
}
