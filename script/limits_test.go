package script_test

import (
	"strings"
	"testing"

	"hallmark/api"
	"hallmark/script"
)

func TestMaxSession(t *testing.T) { // P20.4: bytes, whatever they are
	fill := func(ahead, behind string, n int) string {
		return ahead + strings.Repeat(" ", n-len(ahead)-len(behind)) + behind
	}
	reads(t, fill("", "", api.MaxSession))
	reads(t, fill("check", "", api.MaxSession), api.Act{Kind: api.ActCheck})
	reads(t, fill("", "#", api.MaxSession))
	long := strings.Repeat("a", api.MaxSession-len(`log ""`))
	reads(t, `log "`+long+`"`, api.Act{Kind: api.ActLog, Text: long})
	fails(t, fill("x\n", "x", api.MaxSession), 1, api.ErrScriptWord)
	fails(t, fill("\n", "x", api.MaxSession), 2, api.ErrScriptWord)
	for _, s := range []string{fill("", "", api.MaxSession+1), fill("check\n\n", "x", api.MaxSession+1), fill("x", "", api.MaxSession+1), strings.Repeat("\n", api.MaxSession+1), strings.Repeat("check\n", 20000), `log "` + long + `a"`} {
		fails(t, s, 1, api.ErrScriptLong)
	}
}

func TestMaxSteps(t *testing.T) { // P20.4: at the line of one more, ahead of that line's other faults
	full := strings.Repeat("trim\n", api.MaxSteps)
	if l, err := script.Parse(full + "# trim\n\n \t\n"); err != nil || len(l) != api.MaxSteps {
		t.Errorf("%d acts, %v", len(l), err)
	}
	for _, more := range []string{"trim", "x", "drop", "drop x", `"`, `"a"`, "log \"\\n\"", "\xff"} {
		fails(t, full+more, api.MaxSteps+1, api.ErrScriptMany)
		fails(t, full+"# x\n\n \t\n "+more+"\n", api.MaxSteps+4, api.ErrScriptMany)
		fails(t, "\n#\n"+full+more+"\nx", api.MaxSteps+3, api.ErrScriptMany)
	}
	fails(t, "x\n"+full+"trim", 1, api.ErrScriptWord) // a line further up is told first
	fails(t, full[:len(full)-1]+" 1\ntrim", api.MaxSteps, api.ErrScriptWord)
}

func TestPrintedLimits(t *testing.T) { // P20.5: at the first act from which on there is too much
	var l []api.Act
	for range api.MaxSteps + 3 {
		l = append(l, api.Act{Kind: api.ActCheck})
	}
	prints(t, strings.Repeat("check\n", api.MaxSteps), l[:api.MaxSteps]...)
	refuses(t, api.MaxSteps+1, l[:api.MaxSteps+1]...)
	refuses(t, api.MaxSteps+1, l...)
	l[api.MaxSteps-1].N = 1
	refuses(t, api.MaxSteps, l...)
	long := api.Act{Kind: api.ActLog, Text: strings.Repeat("a", api.MaxSession-len("log \"\"\n"))}
	prints(t, written(long), long)
	refuses(t, 2, long, api.Act{Kind: api.ActShow})
	short := long
	short.Text = long.Text[len("show\n"):]
	prints(t, written(api.Act{Kind: api.ActShow}, short), api.Act{Kind: api.ActShow}, short)
	prints(t, written(short, api.Act{Kind: api.ActShow}), short, api.Act{Kind: api.ActShow})
	refuses(t, 2, short, api.Act{Kind: api.ActCheck})
	refuses(t, 2, api.Act{Kind: api.ActCheck}, short, api.Act{})
	long.Text += "a"
	refuses(t, 1, long)
	refuses(t, 3, api.Act{Kind: api.ActShow}, api.Act{Kind: api.ActShow}, long)
	long.Text = strings.Repeat("\n", api.MaxSession/4) // four bytes each
	refuses(t, 1, long)
	long.Text = long.Text[2:]
	prints(t, written(long), long)
	many := api.Act{Kind: api.ActSolve, List: make([]int, (api.MaxSession-len("solve\n"))/2)}
	prints(t, written(many), many)
	many.List = append(many.List, 0)
	refuses(t, 1, many)
}

func TestLongestTextIsReadButHasNoText(t *testing.T) { // P20.8: without a line feed at its end it is one byte shorter
	s := `log "` + strings.Repeat("a", api.MaxSession-len(`log ""`)) + `"`
	l, err := script.Parse(s)
	if err != nil {
		t.Fatal(err)
	}
	refuses(t, 1, l...)
}

// sized: a problem whose quoted text has just so many bytes between its quotes;
// some 46,000 to 70,000 of them can be had.
func sized(t *testing.T, n int) string {
	t.Helper()
	const name = "xxxxxxxx"
	spare := n - len("var "+name+` 0 1\x0a`) - api.MaxCons*(len(`lin <= 0\x0a`)+api.MaxTerms*len(" 1 "+name))
	out := "var " + name + " 0 1\n"
	for range api.MaxCons {
		out += "lin <= 0"
		for range api.MaxTerms {
			zeros := min(spare, 6)
			spare -= zeros
			out += " 1" + strings.Repeat("0", zeros) + " " + name
		}
		out += "\n"
	}
	if spare != 0 || len(text(out)) != n+2 {
		t.Fatalf("%d bytes, want %d", len(text(out))-2, n)
	}
	return out
}

func TestMaxPlay(t *testing.T) { // P20.6
	const first, shows = "problem 1 64\n", 66
	m := sized(t, (api.MaxPlay-len(first)-63)/shows-len("text \"\"\n")) // 63 bytes, or some more, are left to lines of 8 and of 9
	shown := "text " + text(m) + "\n"
	rest := api.MaxPlay - len(first) - shows*len(shown)
	nines := rest % 8
	eights := (rest - 9*nines) / 8
	const eight, nine = "log \"\"\n", `log "\x0a\x0a\x0a\x0a\x0a\x0a\x0a\x0a\x0a\x0a"` + "\n"
	acts := session(m) + strings.Repeat("show\n", shows) + strings.Repeat(nine, nines) + strings.Repeat(eight, eights)
	full := first + strings.Repeat(shown, shows) + strings.Repeat("lines 10\n", nines) + strings.Repeat("lines 0\n", eights)
	if len(full) != api.MaxPlay || eights < 1 || len(acts) > api.MaxSession-100 {
		t.Fatalf("%d bytes, of a session of %d", len(full), len(acts))
	}
	fewer, less := strings.TrimSuffix(acts, eight), strings.TrimSuffix(full, "lines 0\n")
	for i, c := range []struct{ session, want string }{
		{acts + "\n# nothing\n", full},               // just as many as may be
		{fewer + nine, less + "more\n"},              // one more
		{acts + "drop 0\ndrop 0\n", full + "more\n"}, // behind the last byte; nothing further is done
		{fewer + "show\n" + eight, less + "more\n"},  // what would fit isn't laid behind it
	} {
		got, err := script.Play(c.session)
		if err != nil || got != c.want {
			t.Errorf("row %d: %d bytes, want %d, ends with %q, want %q, %v", i, len(got), len(c.want), got[max(0, len(got)-30):], c.want[len(c.want)-30:], err)
		}
	}
}
