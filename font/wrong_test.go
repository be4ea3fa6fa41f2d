package font_test

import (
	"bytes"
	"math"
	"slices"
	"testing"

	"mezzotint/font"
)

// others are numbers of which there is no font.
var others = []int{math.MinInt, math.MinInt32, -256, -15, -14, -2, -1, 14, 15, 16, 28, 256, 260, 65536, 1<<32 + 4, math.MaxInt32, math.MaxInt}

// P12.1: without such a font its name is empty, and all is 0 wide.
func TestNoFont(t *testing.T) {
	for _, i := range others {
		if name := font.Name(i); name != "" {
			t.Errorf("font %d is %q", i, name)
		}
		for _, c := range letters() {
			if w := font.Width(i, c); w != 0 {
				t.Errorf("letter %d of font %d is %d wide", c, i, w)
			}
		}
		for _, b := range [][]byte{nil, {}, []byte("A"), []byte("Ab"), letters()} {
			if w := font.Sum(i, b); w != 0 {
				t.Errorf("%q in font %d is %d wide", b, i, w)
			}
		}
	}
}

// P12.1: what is no font's name is not found, and no number is told beside it.
func TestNoName(t *testing.T) {
	wrong := []string{
		"", " ", "-", "/", "0", "4", "Arial", "Monaco", "Times", "times-roman", "TIMES-ROMAN", "Times-roman", "TimesRoman", "Times Roman",
		"Times_Roman", "courier", "COURIER", "cOURIER", "helvetica", "HELVETICA", "symbol", "zapfdingbats", "Zapfdingbats", "ZapfDingbat",
		"Zapf", "Cour", "Courie", "Courier-", "Courier-B", "CourierBold", "Courier-Italic", "Helvetica-", "Helvetica-Bold2",
		"Helvetica-BoldObliqu", "Times-Bolditalic", "Times-BoldOblique", "Symbol-Bold", "ourier", "Bold", "Roman", "CourierCourier",
		"Courier,Courier-Bold", "Helv\u00e9tica", "C\u043eurier", "\xff",
	}
	for _, name := range fonts {
		wrong = append(wrong, " "+name, name+" ", name+"\n", name+"\x00", "\x00"+name, "/"+name, "("+name+")", name+"-", name[1:])
	}
	for _, name := range wrong {
		if i, ok := font.Find(name); i != 0 || ok {
			t.Errorf("%q is font %d, %v", name, i, ok)
		}
	}
}

// P12.1: every name that a font's name begins with is a font's only if the document tells it.
func TestBeginnings(t *testing.T) {
	for _, name := range fonts {
		for n := range len(name) + 1 {
			want := slices.Index(fonts, name[:n])
			i, ok := font.Find(name[:n])
			if ok != (want >= 0) || i != max(want, 0) {
				t.Errorf("%q is font %d, %v", name[:n], i, ok)
			}
		}
	}
}

// R4: a text is neither changed, spare room included, nor kept.
func TestTextIsLeft(t *testing.T) {
	room := []byte("AbcSpare\x00\x7f\xff")
	before := bytes.Clone(room)
	for i := -1; i <= font.Count; i++ {
		sum := font.Sum(i, room[:3])
		if !bytes.Equal(room, before) {
			t.Fatalf("font %d: the text is %q now", i, room)
		}
		copy(room, "mmm")
		if other := font.Sum(i, before[:3]); other != sum {
			t.Errorf("font %d: %d, once %d", i, other, sum)
		}
		copy(room, before)
	}
}

// R5: the same calls have the same answers, in whatever order they come.
func TestAgain(t *testing.T) {
	type answer struct {
		name  string
		find  int
		width int
		sum   int
	}
	all := func(i int) answer {
		name := font.Name(i)
		find, _ := font.Find(name)
		return answer{name, find, font.Width(i, 'W'), font.Sum(i, []byte("Warp"))}
	}
	var list []answer
	for i := -1; i <= font.Count; i++ {
		list = append(list, all(i))
	}
	for i := font.Count; i >= -1; i-- {
		if got := all(i); got != list[i+1] {
			t.Errorf("font %d: %+v, once %+v", i, got, list[i+1])
		}
	}
}
