package std_test

import (
	"slices"
	"strings"
	"testing"

	"ballcock/api"
	"ballcock/auto"
	"ballcock/std"
)

// chapter has the protocols in the chapter's words.
const chapter = `
File: Open, End, Shut (final). read Open -> some Open, none End; write Open -> ok Open, over End; size Open -> ok Open; size End -> ok End; close Open -> ok Shut; close End -> ok Shut.
Socket: Fresh, Live, Dead, Closed (final). connect Fresh -> ok Live, fail Dead; send Live -> ok Live, lost Dead; recv Live -> some Live, none Live, lost Dead; peek Live -> some Live, none Live; close Fresh -> ok Closed; close Live -> ok Closed; close Dead -> ok Closed.
Iter: Ready, Over (final). next Ready -> item Ready, done Over; stop Ready -> ok Over; left Ready -> ok Ready.`

// names are those of the protocols, in their order.
var names = []string{"File", "Socket", "Iter"}

// wanted reads the chapter's protocols.
func wanted() []api.Proto {
	var l []api.Proto
	for line := range strings.SplitSeq(strings.TrimSpace(chapter), "\n") {
		l = append(l, read(line))
	}
	return l
}

func read(line string) api.Proto {
	name, line, _ := strings.Cut(strings.TrimSuffix(line, "."), ": ")
	states, moves, _ := strings.Cut(line, ". ")
	p := api.Proto{Name: name}
	for state := range strings.SplitSeq(states, ", ") {
		state, final := strings.CutSuffix(state, " (final)")
		p.States = append(p.States, api.State{Name: state, Final: final})
	}
	index := func(state string) int {
		return slices.IndexFunc(p.States, func(s api.State) bool { return s.Name == state })
	}
	for text := range strings.SplitSeq(moves, "; ") {
		move, outs, _ := strings.Cut(text, " -> ")
		op, from, _ := strings.Cut(move, " ")
		m := api.Move{Op: op, From: index(from)}
		for out := range strings.SplitSeq(outs, ", ") {
			outcome, to, _ := strings.Cut(out, " ")
			m.Outs = append(m.Outs, api.Out{Name: outcome, To: index(to)})
		}
		p.Moves = append(p.Moves, m)
	}
	return p
}

func sameMove(a, b api.Move) bool {
	return a.Op == b.Op && a.From == b.From && slices.Equal(a.Outs, b.Outs)
}

// same tells whether two protocols are equal; nil and empty lists are.
func same(a, b api.Proto) bool {
	return a.Name == b.Name && slices.Equal(a.States, b.States) && slices.EqualFunc(a.Moves, b.Moves, sameMove)
}

// found is the protocol of a name.
func found(t *testing.T, name string) api.Proto {
	t.Helper()
	p, ok := std.Find(name)
	if !ok {
		t.Fatalf("Find(%q) = false", name)
	}
	return p
}

// strangers are texts that are no name of a protocol.
func strangers() []string {
	l := []string{
		"", " ", "\x00", "\n", "x", "None", "Proto", "std", "All", "all", "0", "1", "2", "-1", "File, Socket, Iter", "FileSocketIter",
		"open", "ok", "Ѕocket", "Fıle", "\xffFile", "File\xff", "Filé", "Files", "Sockets", "Iterator", "Fle", "Fiile", "eliF", "Ifer", "Site",
		strings.Repeat("File", 2), strings.Repeat("File", 10000), strings.Repeat("F", 10000), "Iter" + strings.Repeat(" ", 10000), "Socket" + strings.Repeat("\x00", 10000),
	}
	for _, p := range wanted() {
		l = append(l, variants(p.Name)...)
		for _, s := range p.States {
			l = append(l, s.Name)
		}
		for _, m := range p.Moves {
			l = append(l, m.Op)
			for _, o := range m.Outs {
				l = append(l, o.Name)
			}
		}
	}
	return l
}

// variants are a name in other letters, with blanks, and its parts.
func variants(name string) []string {
	l := []string{strings.ToLower(name), strings.ToUpper(name), " " + name, name + " ", "\t" + name, name + "\n", name + "\x00", "\x00" + name, name + ".", name + name[:1]}
	for i := range name {
		l = append(l, name[:i], name[i+1:], name[:i]+name[i+1:], name[:i]+" "+name[i:], name[:i]+"\x00"+name[i+1:])
		letter := name[i : i+1]
		l = append(l, name[:i]+strings.ToUpper(strings.ToLower(letter))+strings.ToUpper(name[i+1:]), name[:i]+strings.ToLower(letter)+"_"+name[i+1:])
	}
	return l
}

func TestP10_1_Chapter(t *testing.T) {
	l := wanted()
	if len(l) != 3 || len(l[0].Moves) != 6 || len(l[1].Moves) != 7 || len(l[2].Moves) != 3 {
		t.Fatalf("the chapter's protocols are read as %v", l)
	}
	last := api.Move{Op: "left", From: 0, Outs: []api.Out{{Name: "ok", To: 0}}}
	recv := api.Move{Op: "recv", From: 1, Outs: []api.Out{{Name: "some", To: 1}, {Name: "none", To: 1}, {Name: "lost", To: 2}}}
	if !sameMove(l[2].Moves[2], last) || !sameMove(l[1].Moves[2], recv) || l[0].States[2] != (api.State{Name: "Shut", Final: true}) || l[1].States[3] != (api.State{Name: "Closed", Final: true}) {
		t.Errorf("the chapter's protocols are read as %v", l)
	}
}

func TestP10_1_All(t *testing.T) {
	if l, want := std.All(), wanted(); !slices.EqualFunc(l, want, same) {
		t.Errorf("All = %v; want %v", l, want)
	}
}

func TestP10_1_States(t *testing.T) {
	for i, want := range []string{"Open End Shut!", "Fresh Live Dead Closed!", "Ready Over!"} {
		var got []string
		for _, s := range std.All()[i].States {
			if s.Final {
				s.Name += "!"
			}
			got = append(got, s.Name)
		}
		if strings.Join(got, " ") != want {
			t.Errorf("the states of %s are %q; want %q", names[i], got, want)
		}
	}
}

func TestP10_1_Moves(t *testing.T) {
	for i, want := range []string{
		"read 0: some 0 none 1; write 0: ok 0 over 1; size 0: ok 0; size 1: ok 1; close 0: ok 2; close 1: ok 2",
		"connect 0: ok 1 fail 2; send 1: ok 1 lost 2; recv 1: some 1 none 1 lost 2; peek 1: some 1 none 1; close 0: ok 3; close 1: ok 3; close 2: ok 3",
		"next 0: item 0 done 1; stop 0: ok 1; left 0: ok 0",
	} {
		var got []string
		for _, m := range std.All()[i].Moves {
			got = append(got, moveText(m))
		}
		if text := strings.Join(got, "; "); text != want {
			t.Errorf("the moves of %s are %s; want %s", names[i], text, want)
		}
	}
}

func moveText(m api.Move) string {
	s := m.Op + " " + digit(m.From) + ":"
	for _, o := range m.Outs {
		s += " " + o.Name + " " + digit(o.To)
	}
	return s
}

func digit(n int) string {
	if n < 0 || n > 9 {
		return "?"
	}
	return string(rune('0' + n))
}

func TestP10_1_Find(t *testing.T) {
	for i, want := range wanted() {
		if p, ok := std.Find(names[i]); !ok || !same(p, want) {
			t.Errorf("Find(%q) = %v, %v; want %v", names[i], p, ok, want)
		}
		// The name is asked for by its bytes, wherever they lie.
		if p, ok := std.Find(string([]byte(names[i]))); !ok || !same(p, want) {
			t.Errorf("Find(%q), in other memory, = %v, %v; want %v", names[i], p, ok, want)
		}
	}
}

func TestP10_1_NotFound(t *testing.T) {
	for _, name := range strangers() {
		if slices.Contains(names, name) {
			t.Fatalf("%q is a name", name)
		}
		if p, ok := std.Find(name); ok || !same(p, api.Proto{}) {
			t.Errorf("Find(%.40q) = %v, %v", name, p, ok)
		}
		if a, ok := std.Auto(name); ok || a != nil {
			t.Errorf("Auto(%.40q) = %p, %v", name, a, ok)
		}
	}
	// Names that are none have no effect on those that are.
	if l, want := std.All(), wanted(); !slices.EqualFunc(l, want, same) {
		t.Errorf("All = %v; want %v", l, want)
	}
}

func TestP10_2_Valid(t *testing.T) {
	l := std.All()
	for _, name := range names {
		l = append(l, found(t, name))
	}
	for _, p := range l {
		if rule, index := auto.Wrong(p); rule != 0 || index != 0 {
			t.Errorf("%s violates rule %d at %d", p.Name, rule, index)
		}
		if a, err := auto.New(p); a == nil || err != api.OK {
			t.Errorf("New(%s): an automaton is %v, the error %v", p.Name, a != nil, err)
		}
	}
	if len(l) != 6 {
		t.Errorf("there are %d protocols", len(l))
	}
}
