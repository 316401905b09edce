package cloud

import "trireme/api"

// state is what happens to an instance in its state.
type state interface {
	// tick returns the instance one tick later, and whether it still exists.
	tick(x api.Inst, broken bool) (api.Inst, bool)
}

type (
	creating struct{}
	running  struct{}
	leaving  struct{}
	failed   struct{}
)

func stateOf(x api.Inst) state {
	switch x.State {
	case api.Creating:
		return creating{}
	case api.Leaving:
		return leaving{}
	case api.Failed:
		return failed{}
	}
	return running{}
}

func (creating) tick(x api.Inst, broken bool) (api.Inst, bool) {
	x.Left--
	switch {
	case x.Left > 0:
		return x, true
	case broken:
		x.State = api.Failed
	default:
		x.State = api.Running
	}
	return x, true
}

func (running) tick(x api.Inst, _ bool) (api.Inst, bool) { return x, true }

func (leaving) tick(api.Inst, bool) (api.Inst, bool) { return api.Inst{}, false }

func (failed) tick(x api.Inst, _ bool) (api.Inst, bool) { return x, true }
