package text_test

import (
	"slices"
	"strings"
	"testing"

	"hallmark/api"
	"hallmark/model"
	"hallmark/text"
)

func prints(t *testing.T, m api.Model, want string) {
	t.Helper()
	if s, e := text.Print(m); e != api.OK || s != want {
		t.Errorf("Print(%+v) = %q, %d; want %q", m, s, e, want)
	}
}

func refuses(t *testing.T, m api.Model, want api.Errno) {
	t.Helper()
	if s, e := text.Print(m); e != want || s != "" {
		t.Errorf("Print: %.100q, %d; want %d", s, e, want)
	}
}

func TestPrint(t *testing.T) { // P5.3
	terms := []api.Term{{C: 2, X: 0}, {C: -1, X: 1}}
	m := two(
		api.Con{Kind: api.Lin, Op: api.Le, K: 4, Terms: terms}, api.Con{Kind: api.Lin, Op: api.Eq, K: -4, Terms: terms[:1]}, api.Con{Kind: api.Lin, Op: api.Ge, Terms: terms[1:]},
		api.Con{Kind: api.Ne, X: 0, Y: 1, K: -1}, api.Con{Kind: api.AllDiff, Xs: []int{1, 0}}, api.Con{Kind: api.Element, X: 1, Y: 0, Table: []int{2, 0, -3}},
		api.Con{Kind: api.Max, Y: 1, Xs: []int{0, 0}}, api.Con{Kind: api.Min, Y: 0, Xs: []int{1}}, api.Con{Kind: api.Reif, X: 1, K: 1000000000, Terms: terms},
		api.Con{Kind: api.Table, Xs: []int{0, 1}, Rows: [][]int{{0, 1}, {3, -1}}}, api.Con{Kind: api.Count, Op: api.Ge, K: 2, V: -1, Xs: []int{0, 1, 1}},
		api.Con{Kind: api.Count, Op: api.Le, K: 1, V: 5, Xs: []int{0}}, api.Con{Kind: api.Count, Op: api.Eq, Xs: []int{1}},
	)
	const lines = "var x 0 3\nvar y -1 2\nlin <= 4 2 x -1 y\nlin = -4 2 x\nlin >= 0 -1 y\nne x y -1\nalldiff y x\nelement y x 2 0 -3\nmax y x x\nmin x y\nreif y <= 1000000000 2 x -1 y\n" +
		"table x y : 0 1 : 3 -1\ncount >= 2 -1 x y y\ncount <= 1 5 x\ncount = 0 0 y\n"
	prints(t, m, lines)
	m.HasGoal, m.Goal = true, terms
	prints(t, m, lines+"minimize 2 x -1 y\n")
	prints(t, api.Model{Vars: []api.Var{{Name: "_"}}}, "var _ 0 0\n")
	prints(t, api.Model{Vars: []api.Var{{Name: "var", Lo: -1000000000, Hi: -1000000000}}, Cons: []api.Con{}, Goal: []api.Term{}}, "var var -1000000000 -1000000000\n")
}

func TestPrintOfAll(t *testing.T) { // P5.3: by the table's words
	s := newSource()
	for range 500 {
		m := s.problem()
		prints(t, m, joined(written(m)))
	}
}

func TestPrintOfWhatIsNotRight(t *testing.T) { // P5.3: model.Check's error, ahead of ErrTextLong
	s := newSource()
	seen := map[api.Errno]int{}
	for _, spoil := range []func(m *api.Model){
		func(m *api.Model) { m.Vars = nil }, func(m *api.Model) { m.Vars[1].Name = "x" }, func(m *api.Model) { m.Vars[0].Name = "a b" }, func(m *api.Model) { m.Vars[0].Hi = 64 },
		func(m *api.Model) { m.Cons[0].Kind = 0 }, func(m *api.Model) { m.Cons[0].Kind = 10 }, func(m *api.Model) { m.Cons[0].Kind = 11 }, func(m *api.Model) { m.Cons[0].Kind = -1 }, func(m *api.Model) { m.Cons[0].Kind = 1 << 40 },
		func(m *api.Model) { m.Cons[0].X = 2 }, func(m *api.Model) { m.Cons[0].Y = -1 }, func(m *api.Model) { m.Cons[0].K = api.MaxValue + 1 }, func(m *api.Model) { m.Cons[0].Xs = []int{0} },
		func(m *api.Model) { m.Cons[0] = api.Con{Kind: api.Lin, Op: 4, Terms: []api.Term{{C: 1}}} }, func(m *api.Model) { m.Cons[0] = api.Con{Kind: api.Lin, Op: 1} },
		func(m *api.Model) { m.Cons[0] = api.Con{Kind: api.Lin, Op: 1, Terms: []api.Term{{}}} }, func(m *api.Model) { m.Cons[0] = api.Con{Kind: api.Table, Xs: []int{0}, Rows: [][]int{{}}} },
		func(m *api.Model) { m.Cons = slices.Repeat(m.Cons, 65) }, func(m *api.Model) { m.Goal = []api.Term{{C: 1}} }, func(m *api.Model) { m.HasGoal = true }, func(m *api.Model) { m.HasGoal, m.Goal = true, []api.Term{{C: 1, X: 2}} },
	} {
		m := two(api.Con{Kind: api.Ne, Y: 1})
		spoil(&m)
		_, want := model.Check(m)
		refuses(t, m, want)
		seen[want]++
	}
	for e := api.ErrModelVars; e <= api.ErrModelCons; e++ {
		if seen[e] == 0 {
			t.Errorf("%d isn't among them", e)
		}
	}
	if seen[api.OK] > 0 {
		t.Errorf("a right one is among them")
	}
	m := sized(api.MaxModel + 1000)
	m.Goal = s.terms(1)
	refuses(t, m, api.ErrModelField)
}

func TestPrintAtItsLimit(t *testing.T) { // P5.3, P5.4
	for more := -2; more <= 2; more++ {
		m := sized(api.MaxModel + more)
		want := joined(written(m))
		if len(want) != api.MaxModel+more {
			t.Fatalf("%d bytes", len(want))
		}
		if more > 0 {
			refuses(t, m, api.ErrTextLong)
			fails(t, want, 1, api.ErrTextLong)
			continue
		}
		prints(t, m, want)
		says(t, want, m)
	}
	c := api.Con{Kind: api.Table, Xs: make([]int, api.MaxCols), Rows: slices.Repeat([][]int{slices.Repeat([]int{-api.MaxValue}, api.MaxCols)}, api.MaxTerms)}
	m := api.Model{Vars: []api.Var{{Name: strings.Repeat("n", 16)}}, Cons: slices.Repeat([]api.Con{c}, api.MaxCons)}
	refuses(t, m, api.ErrTextLong)
}

func TestPrintTouchesNothing(t *testing.T) { // rule 3
	s := newSource()
	for range 100 {
		m := s.problem()
		was := model.Copy(m)
		for i := range m.Cons {
			m.Cons[i].Xs = append(m.Cons[i].Xs, 71, 72)[:len(m.Cons[i].Xs)]
		}
		once, _ := text.Print(m)
		twice, _ := text.Print(m)
		if once != twice || !model.Same(m, was) {
			t.Fatalf("Print changed %+v", was)
		}
		for _, c := range m.Cons {
			if n := len(c.Xs); !slices.Equal(c.Xs[n:n+2], []int{71, 72}) {
				t.Fatalf("Print wrote behind a list of %+v", c)
			}
		}
	}
}
