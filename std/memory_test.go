package std_test

import (
	"slices"
	"testing"

	"ballcock/api"
	"ballcock/auto"
	"ballcock/std"
)

// fill overwrites all memory of a list, in its spare capacity too.
func fill[T any](l []T, with T) {
	for i := range l[:cap(l)] {
		l[:cap(l)][i] = with
	}
}

// ways to change a protocol, each in one place of it or in one of its lists.
func ways(p api.Proto) []func(p *api.Proto) {
	l := []func(p *api.Proto){
		func(p *api.Proto) { p.Name = "changed" },
		func(p *api.Proto) { fill(p.States, api.State{Name: "changed", Final: true}) },
		func(p *api.Proto) { fill(p.Moves, api.Move{Op: "changed", From: 1}) },
		func(p *api.Proto) { *p = api.Proto{Name: "changed"} },
	}
	for i := range p.States {
		l = append(l,
			func(p *api.Proto) { p.States[i].Name = "changed" },
			func(p *api.Proto) { p.States[i].Final = !p.States[i].Final })
	}
	for i, m := range p.Moves {
		l = append(l,
			func(p *api.Proto) { p.Moves[i].Op = "changed" },
			func(p *api.Proto) { p.Moves[i].From++ },
			func(p *api.Proto) { p.Moves[i].Outs = nil },
			func(p *api.Proto) { fill(p.Moves[i].Outs, api.Out{Name: "changed", To: 7}) })
		for j := range m.Outs {
			l = append(l,
				func(p *api.Proto) { p.Moves[i].Outs[j].Name = "changed" },
				func(p *api.Proto) { p.Moves[i].Outs[j].To++ })
		}
	}
	return l
}

// results are what all calls tell, of the automata their protocols.
func results(t *testing.T) []api.Proto {
	l := std.All()
	for _, name := range names {
		l = append(l, found(t, name), made(t, name).Proto())
	}
	return l
}

// allAsWanted tells whether these and further results are what the chapter says.
func allAsWanted(t *testing.T, earlier []api.Proto) bool {
	want := wanted()
	f, s, i := want[0], want[1], want[2]
	want = append(want, f, f, s, s, i, i)
	return slices.EqualFunc(earlier, want, same) && slices.EqualFunc(results(t), want, same)
}

func TestP10_2_Find(t *testing.T) {
	for i, p := range wanted() {
		for j, change := range ways(p) {
			earlier := results(t)
			result := found(t, names[i])
			change(&result)
			if same(result, p) {
				t.Fatalf("the way %d changes nothing of %s", j, p.Name)
			}
			if !allAsWanted(t, earlier) {
				t.Errorf("Find(%s): the way %d to change it changes another result", p.Name, j)
			}
		}
	}
}

func TestP10_2_All(t *testing.T) {
	for i, p := range wanted() {
		for j, change := range ways(p) {
			earlier := results(t)
			result := std.All()
			change(&result[i])
			if same(result[i], p) {
				t.Fatalf("the way %d changes nothing of %s", j, p.Name)
			}
			if !allAsWanted(t, earlier) {
				t.Errorf("All: the way %d to change %s changes another result", j, p.Name)
			}
			for k, other := range wanted() {
				if k != i && !same(result[k], other) {
					t.Errorf("All: the way %d to change %s changes %s", j, p.Name, other.Name)
				}
			}
		}
	}
}

func TestP10_2_List(t *testing.T) {
	earlier := results(t)
	result := std.All()
	slices.Reverse(result)
	fill(std.All(), api.Proto{Name: "changed"})
	fill(std.All()[:1], api.Proto{})
	if want := wanted(); !allAsWanted(t, earlier) || !same(result[0], want[2]) || !same(result[2], want[0]) {
		t.Error("All: another order changes another result")
	}
}

// TestP10_2_ListsOfAResult overwrites one list of a protocol after the other, in its spare capacity too.
func TestP10_2_ListsOfAResult(t *testing.T) {
	for i, p := range wanted() {
		for _, q := range []api.Proto{std.All()[i], found(t, p.Name), made(t, p.Name).Proto()} {
			for j := range q.Moves {
				fill(q.Moves[j].Outs, api.Out{Name: "changed", To: -1})
				if !slices.EqualFunc(q.Moves[j+1:], p.Moves[j+1:], sameMove) {
					t.Errorf("the move %d of %s shares memory with another one", j, p.Name)
				}
			}
			if !slices.Equal(q.States, p.States) {
				t.Errorf("the moves of %s share memory with its states", p.Name)
			}
		}
	}
}

// TestP10_2_Automata changes what the methods of the automata return.
func TestP10_2_Automata(t *testing.T) {
	earlier := results(t)
	for i, p := range wanted() {
		a := made(t, names[i])
		for _, change := range ways(p) {
			q := a.Proto()
			change(&q)
		}
		for _, op := range a.Ops() {
			fill(a.Outcomes(op), "changed")
			for state := range p.States {
				fill(a.Outs(state, op), api.Out{Name: "changed", To: 7})
			}
		}
		fill(a.Ops(), "changed")
		if b, err := auto.New(found(t, names[i])); err != api.OK || b == a {
			t.Errorf("New(%s) is the automaton of Auto, or the error %v", names[i], err)
		}
	}
	if !allAsWanted(t, earlier) {
		t.Error("what an automaton returned changes another result")
	}
}
