package std

import "ballcock/api"

// protocols are the protocols in their order, in new memory.
func protocols() [3]api.Proto {
	return [3]api.Proto{file(), socket(), iter()}
}

// places are the places of the protocols in their order, by their names.
func places() map[string]int {
	return map[string]int{"File": 0, "Socket": 1, "Iter": 2}
}

func file() api.Proto {
	const open, end, shut = 0, 1, 2
	return api.Proto{
		Name:   "File",
		States: []api.State{{Name: "Open"}, {Name: "End"}, {Name: "Shut", Final: true}},
		Moves: []api.Move{
			move("read", open, to("some", open), to("none", end)),
			move("write", open, to("ok", open), to("over", end)),
			move("size", open, to("ok", open)),
			move("size", end, to("ok", end)),
			move("close", open, to("ok", shut)),
			move("close", end, to("ok", shut)),
		},
	}
}

func socket() api.Proto {
	const fresh, live, dead, closed = 0, 1, 2, 3
	return api.Proto{
		Name:   "Socket",
		States: []api.State{{Name: "Fresh"}, {Name: "Live"}, {Name: "Dead"}, {Name: "Closed", Final: true}},
		Moves: []api.Move{
			move("connect", fresh, to("ok", live), to("fail", dead)),
			move("send", live, to("ok", live), to("lost", dead)),
			move("recv", live, to("some", live), to("none", live), to("lost", dead)),
			move("peek", live, to("some", live), to("none", live)),
			move("close", fresh, to("ok", closed)),
			move("close", live, to("ok", closed)),
			move("close", dead, to("ok", closed)),
		},
	}
}

func iter() api.Proto {
	const ready, over = 0, 1
	return api.Proto{
		Name:   "Iter",
		States: []api.State{{Name: "Ready"}, {Name: "Over", Final: true}},
		Moves: []api.Move{
			move("next", ready, to("item", ready), to("done", over)),
			move("stop", ready, to("ok", over)),
			move("left", ready, to("ok", ready)),
		},
	}
}

func move(op string, from int, outs ...api.Out) api.Move {
	return api.Move{Op: op, From: from, Outs: outs}
}

func to(outcome string, state int) api.Out {
	return api.Out{Name: outcome, To: state}
}
