package conv_test

import (
	"math"
	"math/big"
	"strings"
	"testing"

	"mezzotint/api"
	"mezzotint/conv"
)

// told are objects by what Text says of them.
type told struct {
	o    api.Obj
	want string
}

func (b *bench) told() []told {
	b.Helper()
	abcd := b.text("abcd")
	return []told{
		{whole(0), "0"}, {whole(7), "7"}, {whole(-7), "-7"}, {whole(api.MaxInt), "2147483647"}, {whole(api.MinInt), "-2147483648"},
		{whole(api.MaxInt + 1), "2147483648"}, {whole(math.MaxInt), "9223372036854775807"}, {whole(math.MinInt), "-9223372036854775808"},
		{part(0), "0.0"}, {part(one), "1.0"}, {part(-one), "-1.0"}, {part(one / 2), "0.5"}, {part(-one / 4), "-0.25"}, {part(1), "0.0000152587890625"}, {part(-1), "-0.0000152587890625"},
		{part(api.MaxFix), "32767.9999847412109375"}, {part(api.MinFix), "-32768.0"}, {part(api.MaxFix + 1), "0.0"}, {part(math.MinInt), "0.0"},
		{no, "false"}, {yes, "true"}, {api.Obj{Kind: api.Bool, N: 2}, "true"}, {api.Obj{Kind: api.Bool, N: -1}, "true"}, {api.Obj{Kind: api.Bool, N: math.MinInt}, "true"},
		{name(""), ""}, {name("x"), "x"}, {run(name("x")), "x"}, {name("\x00\xff\x80 ("), "\x00\xff\x80 ("}, {name("caf\u00e9"), "caf\u00e9"}, {name(strings.Repeat("n", 200)), strings.Repeat("n", 200)},
		{op, "add"}, {run(op), "add"}, {api.Obj{Kind: api.Op}, ""}, {api.Obj{Kind: api.Op, Name: "\x00\xff"}, "\x00\xff"},
		{abcd, "abcd"}, {b.part(abcd, 1, 2), "bc"}, {b.part(abcd, 4, 0), ""}, {run(abcd), "abcd"}, {b.text(""), ""}, {b.text("\x00\xff(\\\n"), "\x00\xff(\\\n"},
		{null, "--nostringval--"}, {mark, "--nostringval--"}, {kept, "--nostringval--"}, {b.list(), "--nostringval--"}, {run(b.list(whole(1))), "--nostringval--"}, {b.dict(1), "--nostringval--"},
		{api.Obj{Kind: -1, N: 5}, "--nostringval--"}, {api.Obj{Kind: 11, Name: "x"}, "--nostringval--"}, {api.Obj{Name: "x", N: 1}, "--nostringval--"},
	}
}

// P10.2: of each Kind, whatever the access.
func TestText(t *testing.T) {
	b := newBench(t)
	for _, c := range b.told() {
		for access := -1; access <= 4; access++ {
			c.o.Access = access
			if got := string(conv.Text(b.s, c.o)); got != c.want {
				t.Errorf("Text of %+v: %q, not %q", c.o, got, c.want)
			}
		}
	}
	d := b.with(b.dict(1), api.NoAccess)
	if got := string(conv.Text(b.s, d)); got != "--nostringval--" {
		t.Errorf("Text of a dictionary without access: %q", got)
	}
}

// P10.2: nothing of what is not valid, and without a store.
func TestTextOfWrong(t *testing.T) {
	b := newBench(t)
	for _, o := range b.invalid() {
		if got := conv.Text(b.s, o); got != nil {
			t.Errorf("Text of %+v: %q", o, got)
		}
	}
	for _, c := range b.told() {
		if got := conv.Text(nil, c.o); got != nil {
			t.Errorf("Text of %+v without a store: %q", c.o, got)
		}
	}
}

// P10.1: cvs of each Kind, into more room than is needed, just enough, and one too few, and into a part of a string.
func TestCvs(t *testing.T) {
	b := newBench(t)
	for _, c := range b.told() {
		n := len(c.want)
		outer := b.text(strings.Repeat("#", n+3))
		inner := run(b.part(outer, 1, n+1))
		b.gives(b.part(inner, 0, n), "cvs", c.o, inner)
		b.checkText(outer, "#"+c.want+"##")
		exact := b.part(b.text(strings.Repeat("#", n+2)), 2, n)
		b.gives(exact, "cvs", c.o, exact)
		b.checkText(exact, c.want)
		if n > 0 {
			b.refuses(api.RangeCheck, "cvs", c.o, b.part(outer, 3, n-1))
			b.refuses(api.RangeCheck, "cvs", c.o, b.part(outer, 0, 0))
		}
		b.made = nil
	}
}

// P10.1: cvs of a string into itself, and into each part of it that has room.
func TestCvsOverlaps(t *testing.T) {
	const text = "abcde"
	for from := range len(text) + 1 {
		for n := range len(text) + 1 - from {
			for to := range len(text) + 1 {
				for room := range len(text) + 1 - to {
					b := newBench(t)
					s := b.text(text)
					x, o := b.part(s, from, n), b.part(s, to, room)
					if n > room {
						b.refuses(api.RangeCheck, "cvs", x, o)
						continue
					}
					want := []byte(text)
					copy(want[to:], text[from:from+n])
					list, e := conv.Do(b.s, "cvs", x, o)
					if e != api.OK || len(list) != 1 || list[0] != b.part(o, 0, n) {
						t.Errorf("cvs of %+v, %+v: %+v, error %d", x, o, list, e)
					}
					b.checkText(s, string(want))
				}
			}
		}
	}
}

// P10.1: cvs asks for no access but that to what it writes into.
func TestCvsOfNoAccess(t *testing.T) {
	b := newBench(t)
	room := b.text("####################")
	for access := range 4 {
		b.gives(b.part(room, 0, 2), "cvs", b.with(b.text("ab"), access), room)
		b.gives(b.part(room, 0, 15), "cvs", b.with(b.list(null), access), room)
		b.gives(b.part(room, 0, 15), "cvs", b.with(b.dict(1), access), room)
	}
}

// digits answers the 32 bits of n in that base.
func digits(n, base int) string {
	bits := new(big.Int).SetInt64(int64(n))
	if n < 0 {
		bits.Add(bits, new(big.Int).Lsh(big.NewInt(1), 32))
	}
	return strings.ToUpper(bits.Text(base))
}

// writes asks whether cvrs writes just that, into more room than is needed and just enough, and refuses one too few.
func (b *bench) writes(want string, o api.Obj, base int) {
	b.Helper()
	n := len(want)
	outer := b.text(strings.Repeat("#", n+3))
	inner := run(b.part(outer, 1, n+1))
	b.gives(b.part(inner, 0, n), "cvrs", o, whole(base), inner)
	b.checkText(outer, "#"+want+"##")
	b.refuses(api.RangeCheck, "cvrs", o, whole(base), b.part(outer, 0, n-1))
	b.refuses(api.RangeCheck, "cvrs", o, whole(base), b.part(outer, n+3, 0))
	exact := b.part(b.text(strings.Repeat("#", n+1)), 1, n)
	b.gives(exact, "cvrs", o, whole(base), exact)
	b.checkText(exact, want)
	b.made = nil
}

// P10.1: cvrs in each base but 10, of numbers up to the least and the greatest.
func TestCvrs(t *testing.T) {
	b := newBench(t)
	for base := 2; base <= 36; base++ {
		if base == 10 {
			continue
		}
		for _, n := range []int{0, 1, -1, 9, 10, 35, 36, -36, base - 1, base, base * base, 123456789, -123456789, api.MaxInt, api.MaxInt - 1, api.MinInt, api.MinInt + 1} {
			b.writes(digits(n, base), whole(n), base)
		}
		for _, n := range []int{0, 1, -1, one - 1, one, -one, 1 - one, -one - 1, 35*one + one/2, -9*one - 1, api.MaxFix, api.MinFix, api.MinFix + 1} {
			b.writes(digits(n/one, base), part(n), base)
		}
	}
	for _, c := range []struct {
		o    api.Obj
		base int
		want string
	}{
		{whole(0), 2, "0"}, {whole(5), 2, "101"}, {whole(-1), 2, strings.Repeat("1", 32)}, {whole(api.MinInt), 2, "1" + strings.Repeat("0", 31)}, {whole(255), 16, "FF"}, {whole(api.MinInt), 16, "80000000"},
		{whole(35), 36, "Z"}, {whole(36), 36, "10"}, {whole(-1), 36, "1Z141Z3"}, {whole(8), 8, "10"}, {whole(-2), 8, "37777777776"}, {part(-one / 2), 16, "0"}, {part(-3*one - 1), 16, "FFFFFFFD"}, {part(31*one + one - 1), 16, "1F"},
	} {
		b.writes(c.want, c.o, c.base)
	}
}

// P10.1: cvrs in base 10 is like cvs: with a sign, with what is behind the point, and of any N.
func TestCvrsInTen(t *testing.T) {
	b := newBench(t)
	for _, c := range b.told() {
		if c.o.Kind == api.Int || c.o.Kind == api.Real {
			b.writes(c.want, c.o, 10)
			c.o.Exec, c.o.Access = true, api.NoAccess
			b.writes(c.want, c.o, 10)
		}
	}
}

// P10.1: RangeCheck of a base that is none, ahead of what is wrong with the number and with the room; of an Int or a
// Real that is no number cvi's error, ahead of what is wrong with the room.
func TestCvrsOfWrongNumbers(t *testing.T) {
	b := newBench(t)
	numbers := []api.Obj{whole(0), whole(-5), part(one / 2), whole(api.MaxInt)}
	none := []api.Obj{whole(api.MaxInt + 1), whole(api.MinInt - 1), whole(math.MinInt), part(api.MaxFix + 1), part(api.MinFix - 1), part(math.MaxInt)}
	for _, room := range []api.Obj{b.text(strings.Repeat("#", 40)), b.text("")} {
		for _, base := range []int{1, 0, -1, -2, -10, -16, 37, 38, 100, 256, 65538, api.MaxInt, api.MinInt} {
			for _, o := range append(numbers, none...) {
				b.refuses(api.RangeCheck, "cvrs", o, whole(base), room)
			}
		}
		for _, base := range []int{2, 9, 11, 16, 36} {
			for _, o := range none {
				b.refuses(api.TypeCheck, "cvrs", o, whole(base), room)
			}
		}
		for _, base := range []int{api.MaxInt + 1, api.MinInt - 1, 1<<32 + 10, math.MinInt} {
			for _, o := range numbers {
				b.refuses(api.TypeCheck, "cvrs", o, whole(base), room)
			}
		}
	}
}
