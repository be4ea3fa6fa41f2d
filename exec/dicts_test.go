package exec_test

import (
	"slices"
	"strconv"
	"strings"
	"testing"

	"mezzotint/api"
)

// P11.3: the dictionaries' stack: begin, end, and what counts and clears it.
func TestDictionaries(t *testing.T) {
	check(t, small,
		example{"1 dict begin /a 5 def a end", "5"},
		example{"/a 1 def 1 dict begin a /a 2 def a end a", "1 2 1"},
		example{"currentdict 1 dict begin currentdict end currentdict", "<<user>> 1<<>> <<user>>"},
		example{"countdictstack 1 dict begin countdictstack 1 dict begin countdictstack cleardictstack countdictstack", "2 3 4 2"},
		example{"cleardictstack countdictstack currentdict", "2 <<user>>"},
		example{"1 dict begin end countdictstack", "2"},
		example{"end", "!DictStackUnderflow end"},
		example{"5 1 dict begin end end", "5 !DictStackUnderflow end"},
		example{"1 dict dup begin begin countdictstack /a 5 def end a end", "4 5"},
		example{"1 dict begin /a 5 def cleardictstack a", "!Undefined a"},
		example{"1 dict readonly begin countdictstack", "3"},
		example{"1 dict noaccess begin", "1<<>> !InvalidAccess begin"},
		example{"1 dict dup noaccess pop begin", "1<<>> !InvalidAccess begin"},
		example{"5 begin", "5 !TypeCheck begin"},
		example{"[ ] begin", "[] !TypeCheck begin"},
		example{"systemdict begin currentdict", "<<system>>"},
		example{"1 dict cvx begin currentdict xcheck", "true"},
		example{"userdict /add { 7 } put 1 2 add systemdict begin 1 2 add", "1 2 7 3"},
		example{"1 dict dup begin noaccess pop /a where", "false"},
	)
	check(t, small,
		example{repeated(4, "1 dict begin") + " countdictstack", "6"},
		example{repeated(4, "1 dict begin") + " 1 dict begin", "1<<>> !DictStackOverflow begin"},
		example{repeated(4, "1 dict begin") + " end 1 dict begin countdictstack", "6"},
		example{repeated(4, "1 dict begin") + " 1 dict noaccess begin", "1<<>> !InvalidAccess begin"},
	)
	check(t, limit(func(l *api.Limits) { l.Dicts = 2 }),
		example{"countdictstack 1 dict begin", "2 1<<>> !DictStackOverflow begin"},
		example{"/a 5 def a", "5"},
	)
}

// P11.3: def: in the topmost dictionary, if that may be written.
func TestDef(t *testing.T) {
	check(t, small,
		example{"/a 5 def a /a 6 def a", "5 6"},
		example{"(a) 5 def a", "5"},
		example{"1 5 def userdict 1 get userdict 1.0 get", "5 5"},
		example{"1.5 5 def userdict 1.5 get", "5"},
		example{"true 5 def currentdict true get", "5"},
		example{"/a { 1 2 } def a", "1 2"},
		example{"/a mark def a", "mark"},
		example{"/a null def a userdict /a known", "null true"},
		example{"/add 5 def add", "5"},
		example{"/a cvx 5 def a", "5"},
		example{"null 5 def", "null 5 !TypeCheck def"},
		example{"128 string 5 { def } stopped exch pop exch length exch", "128 true"},
		example{"systemdict begin /a 5 def", "/a 5 !InvalidAccess def"},
		example{"systemdict begin null 5 def", "null 5 !TypeCheck def"},
		example{"1 dict readonly begin /a 5 def", "/a 5 !InvalidAccess def"},
		example{"1 dict dup begin noaccess pop /a 5 def", "/a 5 !InvalidAccess def"},
		example{"1 dict begin /a 5 def /a 6 def a /b 7 def", "6 /b 7 !DictFull def"},
		example{"0 dict begin /a 5 def", "/a 5 !DictFull def"},
		example{"1 dict readonly begin null 5 def", "null 5 !TypeCheck def"},
	)
	check(t, great,
		example{"0 1 199 { dup def } for 199", "199"},
		example{"0 1 200 { dup def } for", "200 200 !DictFull def"},
	)
}

// P11.3: load: what a key stands for, which is not done.
func TestLoad(t *testing.T) {
	check(t, small,
		example{"/a 5 def /a load", "5"},
		example{"/a { 1 2 } def /a load", "{1 2}"},
		example{"/a /b cvx def /a load", "b"},
		example{"/add load", "<add>"},
		example{"(add) load", "<add>"},
		example{"7 8 def 7 load 7.0 load", "8 8"},
		example{"/a 1 def 1 dict begin /a 2 def /a load end /a load", "2 1"},
		example{"/a 1 def 1 dict begin /b 2 def /a load", "1"},
		example{"/a cvx load", "a !Undefined load"},
		example{"7 load", "7 !Undefined load"},
		example{"null load", "null !TypeCheck load"},
		example{"128 string { load } stopped exch length", "true 128"},
		example{"[ 1 ] load", "[1] !Undefined load"},
		example{"1 dict dup /a 5 put dup begin noaccess pop /a load", "5"},
	)
}

// P11.3: store: where a key is found, if that may be written, else in the topmost.
func TestStore(t *testing.T) {
	check(t, small,
		example{"/a 1 def 1 dict begin /a 2 store a end a", "2 2"},
		example{"/a 1 def 1 dict begin /a 2 def /a 3 store a end a", "3 1"},
		example{"1 dict begin /a 5 store a end /a where", "5 false"},
		example{"/a 5 store a", "5"},
		example{"7 8 store 7 load", "8"},
		example{"(a) 5 store a", "5"},
		example{"/add 5 store", "/add 5 !InvalidAccess store"},
		example{"1 dict begin /add 5 store", "/add 5 !InvalidAccess store"},
		example{"systemdict begin /a 5 store", "/a 5 !InvalidAccess store"},
		example{"/a 1 def systemdict begin /a 5 store a", "5"},
		example{"1 dict readonly begin /a 5 store", "/a 5 !InvalidAccess store"},
		example{"null 5 store", "null 5 !TypeCheck store"},
		example{"systemdict begin null 5 store", "null 5 !TypeCheck store"},
		example{"0 dict begin /a 5 store", "/a 5 !DictFull store"},
		example{"128 string 5 { store } stopped exch pop exch length exch", "128 true"},
		example{"1 dict begin /a 1 def 0 dict begin /a 5 store a", "5"},
	)
}

// P11.3: where: the dictionary that has a key.
func TestWhere(t *testing.T) {
	check(t, small,
		example{"/add where", "<<system>> true"},
		example{"/a where", "false"},
		example{"/a 5 def /a where", "<<user>> true"},
		example{"/a 5 def 1 dict begin /a where", "<<user>> true"},
		example{"/a 5 def 1 dict begin /a 6 def /a where", "1<</a 6>> true"},
		example{"(add) where", "<<system>> true"},
		example{"7 where", "false"},
		example{"null where", "null !TypeCheck where"},
		example{"128 string { where } stopped exch length", "true 128"},
		example{"1 dict cvx begin /a 6 def /a where", "!1<</a 6>> true"},
		example{"/a where { pop 1 } { 2 } ifelse", "2"},
	)
}

// P11.3: bind: names that stand for operators, in a procedure and in those within it.
func TestBind(t *testing.T) {
	check(t, small,
		example{"{ add } bind", "{<add>}"},
		example{"{ 1 add /add (add) x } bind", "{1 <add> /add (add) x}"},
		example{"{ { add { sub } } mul } bind", "{{<add> {<sub>}} <mul>}"},
		example{"{ } bind", "{}"},
		example{"/add 5 def { add sub } bind", "{add <sub>}"},
		example{"/x /add load def { x } bind", "{<add>}"},
		example{"/x /add load cvlit def { x } bind", "{/<add>}"},
		example{"/x /add cvx def { x } bind", "{x}"},
		example{"/x { add } def { x } bind x", "{x} !StackUnderflow add"},
		example{"{ true null systemdict } bind", "{true null systemdict}"},
		example{"1 dict begin /sub /add load def { sub } bind end", "{<add>}"},
		example{"/f { add } bind def /add { 7 } def 1 2 f", "3"},
		example{"[ /add cvx /sub ] cvx bind", "{<add> /sub}"},
		example{"[ /add cvx [ /sub cvx ] [ /mul cvx ] cvx ] cvx bind", "{<add> [sub] {<mul>}}"},
		example{"[ /add cvx ] bind", "[add] !TypeCheck bind"},
		example{"(add) cvx bind", "!(add) !TypeCheck bind"},
		example{"5 bind", "5 !TypeCheck bind"},
		example{"bind", "!StackUnderflow bind"},
		example{"{ add } readonly bind", "{add}"},
		example{"{ add } executeonly bind", "{add}"},
		example{"{ add } noaccess bind", "{add}"},
		example{"/p { add } readonly def [ /sub cvx /p load ] cvx bind", "{<sub> {add}}"},
		example{"{ { add } } dup 0 get readonly pop bind", "{{<add>}}"},
		example{"/p { { add } } executeonly def [ /sub cvx /p load ] cvx bind", "{<sub> {{add}}}"},
		example{"{ add sub mul } dup 1 1 getinterval bind", "{add <sub> mul} {<sub>}"},
		example{"/p { add } def [ /p load dup readonly ] cvx bind", "{{<add>} {<add>}}"},
		example{"/p { add } def [ /p load readonly dup ] cvx bind", "{{add} {add}}"},
	)
}

// P11.3: procedures that are within themselves, once and many times: it ends.
func TestBindOfRings(t *testing.T) {
	check(t, small,
		example{"/p { add 0 } def /p load 1 /p load put /p load bind 0 get", "<add>"},
		example{"/p { 0 0 add } def /p load 0 /p load put /p load 1 /p load put /p load bind 2 get", "<add>"},
		example{"/p { 0 0 add } def /q { 0 0 sub } def 0 1 1 { dup /p load exch /q load put /q load exch /p load put } for /p load bind pop /p load 2 get /q load 2 get", "<add> <sub>"},
	)
	parts := "/p 300 array cvx def 0 1 298 { dup 1 add /p load exch 0 exch getinterval /p load 3 1 roll put } for /p load 299 /add cvx put /p load bind 299 get"
	check(t, limit(func(l *api.Limits) { l.Cells = 10000 }), example{parts, "<add>"})
}

// P11.3: procedures within one another, as deep as may be, and one deeper: that one stays.
func TestBindDepth(t *testing.T) {
	for deepest := 60; deepest <= 70; deepest++ {
		m := machine(t, small, "bind pop")
		var procs []api.Obj
		inner, e := m.Store().List(run(name("add")))
		procs = append(procs, run(taken(t, inner, e)))
		for range deepest - 1 {
			outer, e := m.Store().List(run(name("sub")), procs[len(procs)-1])
			procs = append(procs, run(taken(t, outer, e)))
		}
		slices.Reverse(procs)
		push(t, m, procs[0])
		finish(m)
		for depth, p := range procs {
			first, e := m.Store().At(p, 0)
			if want := depth < api.MaxNest; e != api.OK || (first.Kind == api.Op) != want {
				t.Errorf("procedure %d of %d: %+v", depth+1, deepest, first)
			}
		}
	}
	nested := strings.Repeat("{ add ", 64) + strings.Repeat("}", 64)
	m := machine(t, small, nested+" bind")
	finish(m)
	p, e := m.Operands().Pop()
	for range 64 {
		first, _ := m.Store().At(taken(t, p, e), 0)
		if first.Kind != api.Op {
			t.Errorf("%+v", first)
		}
		p, e = m.Store().At(p, p.Len-1)
	}
}

// P11.3: save and restore: what comes back, and what does not.
func TestSaveRestore(t *testing.T) {
	check(t, small,
		example{"/a 1 def save /a 2 def restore a", "1"},
		example{"save /a 2 def restore /a where", "false"},
		example{"/a [ 1 2 ] def save a 0 9 put restore a", "[1 2]"},
		example{"/s (ab) def save s 0 65 put restore s", "(Ab)"},
		example{"save type", "savetype"},
		example{"5 6 save 7 exch restore", "5 6 7"},
		example{"save /x exch def 1 2 x restore /x where", "1 2 false"},
		example{"/v save def v v restore", "save"},
		example{"save dup restore restore", "save !InvalidRestore restore"},
		example{"save save exch restore restore", "save !InvalidRestore restore"},
		example{"save save restore restore 5", "5"},
		example{"5 restore", "5 !TypeCheck restore"},
		example{"restore", "!StackUnderflow restore"},
		example{"/d 1 dict def save d readonly pop restore d wcheck", "true"},
		example{repeated(15, "save") + " pop count", strings.Repeat("save ", 14) + "14"},
		example{repeated(16, "save"), strings.Repeat("save ", 15) + "!LimitCheck save"},
		example{repeated(15, "save") + " restore save pop save", strings.Repeat("save ", 14) + "!LimitCheck save"},
	)
	check(t, limit(func(l *api.Limits) { l.Operands = 2 }),
		example{"1 2 save", "1 2 !StackOverflow save"},
		example{"1 save", "1 save"},
	)
}

// P11.3, R6: a save that has no room is none; too many of them is told first.
func TestSaveWithoutRoom(t *testing.T) {
	m := machine(t, limit(func(l *api.Limits) { l.Operands = 2 }), "1 { 2 save } stopped")
	if s := finish(m); told(s) != "!StackOverflow stopped" || m.Saved() != 0 {
		t.Errorf("%s, %d saves", told(s), m.Saved())
	}
	m = machine(t, limit(func(l *api.Limits) { l.Operands = 15 }), repeated(15, "save"))
	if finish(m); m.Saved() != 15 || m.Operands().Len() != 15 {
		t.Errorf("%d saves", m.Saved())
	}
	check(t, limit(func(l *api.Limits) { l.Operands = 15 }), example{repeated(16, "save"), strings.Repeat("save ", 15) + "!LimitCheck save"})
}

// P11.3: restore is refused if the operands below, the dictionaries or what is being done would be gone.
func TestRestoreHeld(t *testing.T) {
	check(t, small,
		example{"save (a) exch restore", "(a) save !InvalidRestore restore"},
		example{"save 1 array exch restore", "[null] save !InvalidRestore restore"},
		example{"save 1 dict exch restore", "1<<>> save !InvalidRestore restore"},
		example{"save { 1 } exch restore", "{1} save !InvalidRestore restore"},
		example{"(a) save 5 (b) pop exch restore", "(a) 5"},
		example{"(ab) save 1 index 0 1 getinterval exch restore", "(ab) (a)"},
		example{"save (a) 1 index restore", "save (a) save !InvalidRestore restore"},
		example{"save 1 dict begin restore", "save !InvalidRestore restore"},
		example{"save 1 dict begin end restore 5", "5"},
		example{"1 dict save exch begin /a 5 def restore /a where", "false"},
		example{"save 1 dict begin 1 dict begin end restore", "save !InvalidRestore restore"},
		example{"save { restore } exec 5", "5"},
		example{"save { restore 5 } exec", "save !InvalidRestore restore"},
		example{"{ save exch pop restore 5 } 9 exch exec", "5"},
		example{"/f { save restore 5 } def f", "5"},
		example{"save { restore exit } loop", "save !InvalidRestore restore"},
		example{"save 1 { restore } repeat", "save !InvalidRestore restore"},
		example{"save 1 1 1 { pop restore } for", "save !InvalidRestore restore"},
		example{"save [ 1 ] { pop restore } forall", "save !InvalidRestore restore"},
		example{"/p { pop restore } def save [ 1 ] /p load forall", "save !InvalidRestore restore"},
		example{"/p { pop restore } def save (a) /p load forall", "save !InvalidRestore restore"},
		example{"/p { pop pop restore } def save << 1 2 >> /p load forall", "save !InvalidRestore restore"},
		example{"/p { pop restore } def [ 1 ] save exch /p load forall 5", "5"},
		example{"/p { restore } def save 1 /p load repeat 5", "5"},
		example{"/p { pop restore } def save 1 1 1 /p load for 5", "5"},
		example{"/p { restore exit } def save /p load loop 5", "5"},
		example{"save { { restore } stopped } exec", "false"},
		example{"/p { restore } def save /p load stopped 5", "false 5"},
		example{"save { restore } stopped 5", "false 5"},
		example{"save { { restore } exec 7 } stopped 5", "save true 5"},
	)
}

// P11.3: a program that a string is, is bytes: the string itself may be gone meanwhile.
func TestRestoreWithinText(t *testing.T) {
	check(t, small,
		example{"save (restore 5) cvx exec 6", "5 6"},
		example{"(save (restore 5) cvx exec 6) cvx exec 7", "5 6 7"},
	)
}

// P11.3: save and restore over and over.
func TestManySaves(t *testing.T) {
	check(t, limit(func(l *api.Limits) { l.Fuel = api.MaxFuel }),
		example{"/a 1 def 2000 { save /a 2 def /b (xxxxxxxxxxxxxxxx) def restore } repeat a /b where", "1 false"},
	)
	m := machine(t, small, "save 100 array pop restore")
	finish(m)
	if free := small.Cells - 199 - 401; m.Store().Free() != free {
		t.Errorf("%s cells are left, not %s", strconv.Itoa(m.Store().Free()), strconv.Itoa(free))
	}
}
