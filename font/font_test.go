package font_test

import (
	"slices"
	"testing"

	"mezzotint/font"
)

// The fonts, in the document's order.
var fonts = []string{
	"Courier", "Courier-Bold", "Courier-Oblique", "Courier-BoldOblique",
	"Helvetica", "Helvetica-Bold", "Helvetica-Oblique", "Helvetica-BoldOblique",
	"Times-Roman", "Times-Bold", "Times-Italic", "Times-BoldItalic", "Symbol", "ZapfDingbats",
}

// P12.1: each font has its name and its number.
func TestNames(t *testing.T) {
	if font.Count != 14 || len(fonts) != 14 {
		t.Fatalf("%d fonts, not %d", font.Count, len(fonts))
	}
	for i, name := range fonts {
		if got := font.Name(i); got != name {
			t.Errorf("font %d is %q, not %q", i, got, name)
		}
		if got, ok := font.Find(name); !ok || got != i {
			t.Errorf("%q is font %d, %v, not %d", name, got, ok, i)
		}
	}
}

// P12.1: letters 32 to 126 are as wide as the tables say, all others 0, in every font.
func TestWidths(t *testing.T) {
	all := told(t)
	if len(all) != font.Count {
		t.Fatalf("widths of %d fonts", len(all))
	}
	for i, name := range fonts {
		for c := range 256 {
			want := 0
			if c >= 32 && c <= 126 {
				want = all[name][c-32]
			}
			if got := font.Width(i, byte(c)); got != want {
				t.Errorf("letter %d of %s is %d wide, not %d", c, name, got, want)
			}
		}
	}
}

// P12.1: the ends of each table, written out once more, and its neighbours, which are 0 wide.
func TestEnds(t *testing.T) {
	first := []int{600, 600, 600, 600, 278, 278, 278, 278, 250, 250, 250, 250, 600, 788}
	last := []int{600, 600, 600, 600, 584, 584, 584, 584, 541, 520, 541, 570, 600, 788}
	sums := []int{57000, 57000, 57000, 57000, 49978, 52352, 49978, 52352, 48611, 50900, 47935, 48918, 57000, 74860}
	for i := range font.Count {
		if font.Width(i, ' ') != first[i] || font.Width(i, '~') != last[i] {
			t.Errorf("%s: %d and %d at the ends", fonts[i], font.Width(i, ' '), font.Width(i, '~'))
		}
		for _, c := range []byte{0, 1, '\n', 31, 127, 128, 160, 255} {
			if got := font.Width(i, c); got != 0 {
				t.Errorf("letter %d of %s is %d wide", c, fonts[i], got)
			}
		}
		if got := font.Sum(i, letters()); got != sums[i] {
			t.Errorf("all of %s are %d wide, not %d", fonts[i], got, sums[i])
		}
	}
}

// letters answers every letter there can be.
func letters() []byte {
	var b []byte
	for c := range 256 {
		b = append(b, byte(c))
	}
	return b
}

// P12.1: a text is as wide as its letters together; the document's example among them.
func TestSums(t *testing.T) {
	for _, c := range []struct {
		font string
		text string
		want int
	}{
		{"Helvetica", "Ab", 1223}, {"Helvetica", "A", 667}, {"Helvetica", "b", 556}, {"Helvetica", "bA", 1223},
		{"Helvetica", "AAA", 2001}, {"Helvetica", "A\nb", 1223}, {"Helvetica", "\x00A\x1f\x7f\x80b\xff", 1223},
		{"Helvetica", "\x00\x1f\x7f\x80\xff", 0}, {"Helvetica", "\xc3\xa9", 0}, {"Helvetica-Oblique", "Ab", 1223},
		{"Helvetica-Bold", "Ab", 1333}, {"Helvetica-BoldOblique", "Ab", 1333}, {"Courier", "Hello", 3000},
		{"Courier-BoldOblique", "H\to", 1200}, {"Symbol", " ~", 1200}, {"ZapfDingbats", " ~", 1576},
		{"Times-Roman", "Ab", 1222}, {"Times-Bold", "Hi", 1056}, {"Times-Italic", "@", 920}, {"Times-BoldItalic", "@@", 1664},
	} {
		i, ok := font.Find(c.font)
		if !ok {
			t.Fatalf("no font %s", c.font)
		}
		if got := font.Sum(i, []byte(c.text)); got != c.want {
			t.Errorf("%q in %s is %d wide, not %d", c.text, c.font, got, c.want)
		}
	}
}

// P12.1: nothing is 0 wide, one letter as wide as it is, many letters as wide as they are, one by one.
func TestManyLetters(t *testing.T) {
	for i := range font.Count {
		if none, empty := font.Sum(i, nil), font.Sum(i, []byte{}); none != 0 || empty != 0 {
			t.Errorf("%s: nothing is %d and %d wide", fonts[i], none, empty)
		}
		for _, c := range letters() {
			if got, want := font.Sum(i, []byte{c}), font.Width(i, c); got != want {
				t.Errorf("%s: letter %d alone is %d wide, not %d", fonts[i], c, got, want)
			}
		}
		many, want := slices.Repeat(letters(), 256), 0
		for _, c := range many {
			want += font.Width(i, c)
		}
		if got := font.Sum(i, many); got != want {
			t.Errorf("%s: many letters are %d wide, not %d", fonts[i], got, want)
		}
	}
}

// P12.1: two parts of a text are together as wide as the whole, wherever it is parted.
func TestParts(t *testing.T) {
	whole := append(letters(), "The quick brown fox jumps over the lazy dog."...)
	for i := -1; i <= font.Count; i++ {
		sum := font.Sum(i, whole)
		for at := range len(whole) + 1 {
			if a, b := font.Sum(i, whole[:at]), font.Sum(i, whole[at:]); a+b != sum {
				t.Fatalf("font %d, parted at %d: %d and %d, not %d", i, at, a, b, sum)
			}
		}
	}
}
