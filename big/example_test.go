package big_test

import (
	"fmt"
	"testing"

	"hallmark/api"
	own "hallmark/big"
)

func ExampleInt_DivUp() {
	a, e := own.Parse("18446744073709551616")
	if e != api.OK {
		return
	}
	fmt.Println(a.Mul(a).Text())
	q, _ := a.Neg().DivUp(own.Of(3))
	fmt.Println(q.Text())
	// Output:
	// 340282366920938463463374607431768211456
	// -6148914691236517205
}

// TestExamples: the chapter's.
func TestExamples(t *testing.T) {
	for _, c := range []struct {
		a, b int
		want string
		e    api.Errno
	}{{-7, 2, "-3", api.OK}, {7, 2, "4", api.OK}, {0, 5, "0", api.OK}, {1, 0, "0", api.ErrBigZero}, {1, -1, "0", api.ErrBigZero}} {
		if q, e := own.Of(c.a).DivUp(own.Of(c.b)); q.Text() != c.want || e != c.e {
			t.Errorf("P1.4: %d by %d: %s, error %d", c.a, c.b, q.Text(), e)
		}
	}
	if n, ok := parse(t, "-9223372036854775808").Small(); n != -1<<63 || !ok {
		t.Errorf("P1.2: Small of -2^63: %d, %v", n, ok)
	}
	if n, ok := parse(t, "9223372036854775808").Small(); n != 0 || ok {
		t.Errorf("P1.2: Small of 2^63: %d, %v", n, ok)
	}
	for _, s := range []string{"-0", "01", " 1"} {
		if n, e := own.Parse(s); e != api.ErrBigForm || n.Text() != "0" {
			t.Errorf("P1.1: Parse(%q): %s, error %d", s, n.Text(), e)
		}
	}
}
