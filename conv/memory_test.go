package conv_test

import (
	"bytes"
	"slices"
	"testing"

	"mezzotint/api"
	"mezzotint/conv"
)

// samples answers an operator's operands, of which it does something, by its name.
func (b *bench) samples() map[string][]api.Obj {
	b.Helper()
	s, number, a, d := b.text("abcd"), b.text("12"), run(b.list(null, mark)), b.dict(3)
	return map[string][]api.Obj{
		"type": {s}, "cvx": {s}, "cvlit": {a}, "xcheck": {a}, "cvi": {number}, "cvr": {number}, "cvn": {s}, "cvs": {number, s}, "cvrs": {whole(255), whole(16), s},
		"readonly": {d}, "executeonly": {a}, "noaccess": {d}, "rcheck": {a}, "wcheck": {d},
	}
}

// R4, R5: what is handed in is neither changed (spare room included) nor kept, what is answered is new, and the same
// calls have the same answers.
func TestMemory(t *testing.T) {
	b := newBench(t)
	samples := b.samples()
	for _, op := range slices.Concat(operators...) {
		args, ok := samples[op]
		if !ok {
			t.Fatalf("no sample of %s", op)
		}
		room := append(slices.Clone(args), whole(71), whole(72), whole(73))
		before := slices.Clone(room)
		one, two := b.s.Copy(), b.s.Copy()
		first, e := conv.Do(one, op, room[:len(args)]...)
		if e != api.OK || !slices.Equal(room, before) {
			t.Errorf("%q of %+v: error %d, operands %+v", op, args, e, room)
		}
		want, after := slices.Clone(first), b.state(one)
		spoil(room)
		if !slices.Equal(first, want) {
			t.Errorf("%q of %+v: the answer has what was handed in", op, args)
		}
		spoil(first)
		if now := b.state(one); now != after {
			t.Errorf("%q of %+v: the store has what was handed in, or answered: %s, not %s", op, args, now, after)
		}
		second, e := conv.Do(two, op, args...)
		if e != api.OK || !slices.Equal(second, want) || b.state(two) != after {
			t.Errorf("%q of %+v: at first %+v, then %+v, error %d", op, args, want, second, e)
		}
	}
}

// spoil writes over all that can be reached from a list, spare room included.
func spoil(list []api.Obj) {
	list = list[:cap(list)]
	for i := range list {
		list[i] = name("spoilt")
	}
}

// P10.1: only those that write something, or bar a dictionary, change anything; none takes cells.
func TestReadersChangeNothing(t *testing.T) {
	for _, op := range slices.Concat(operators...) {
		b := newBench(t)
		args := b.samples()[op]
		before, free := b.state(b.s), b.s.Free()
		if _, e := conv.Do(b.s, op, args...); e != api.OK {
			t.Errorf("%s: error %d", op, e)
		}
		writes := slices.Contains([]string{"cvs", "cvrs", "readonly", "noaccess"}, op)
		if changed := b.state(b.s) != before; changed != writes {
			t.Errorf("%s: has it changed something? %t", op, changed)
		}
		if b.s.Free() != free {
			t.Errorf("%s: %d cells, not %d", op, b.s.Free(), free)
		}
	}
}

// R4: a name that a string was turned into stays when the string is written, and a Text is nobody else's.
func TestTextMemory(t *testing.T) {
	b := newBench(t)
	s := b.text("abcd")
	list, e := conv.Do(b.s, "cvn", s)
	b.fine(e)
	first, second := conv.Text(b.s, s), conv.Text(b.s, s)
	b.fine(b.s.Write(s, 0, []byte("wxyz")))
	if len(list) != 1 || list[0] != name("abcd") {
		t.Errorf("the name has become %+v", list)
	}
	for _, o := range []api.Obj{s, name("abcd"), op, yes, whole(1), null} {
		text := conv.Text(b.s, o)
		want := bytes.Clone(text)
		text = text[:cap(text)]
		for i := range text {
			text[i] = '!'
		}
		if again := conv.Text(b.s, o); !bytes.Equal(again, want) {
			t.Errorf("Text of %+v: %q, not %q", o, again, want)
		}
	}
	if string(first) != "abcd" || string(second) != "abcd" {
		t.Errorf("the texts have become %q, %q", first, second)
	}
	b.checkText(s, "wxyz")
}

// R5: a call that was refused leaves nothing behind for the next one.
func TestBehindAnError(t *testing.T) {
	b := newBench(t)
	number, room := b.text("12"), b.text("##")
	for range 3 {
		b.refuses(api.TypeCheck, "cvi", room)
		b.tells(whole(12), "cvi", number)
		b.refuses(api.RangeCheck, "cvs", whole(123), room)
		b.refuses(api.RangeCheck, "cvrs", whole(4), whole(2), room)
		b.checkText(room, "##")
		b.refuses(api.ErrArg, "cvi", number, number)
	}
}
