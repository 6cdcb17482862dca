package trim_test

import (
	"fmt"

	"hallmark/trim"
)

func ExampleTrim() {
	m := "var x 0 1\nlin >= 1 1 x\nlin <= 9 1 x\nlin <= 0 1 x\n"
	log := `pseudo-Boolean proof version 2.0
f 3
* row 2 isn't needed, and neither is row 4
pol 1 2 +
rup >= 1 ;
output NONE
conclusion UNSAT : 5
end pseudo-Boolean proof
`
	short, cons, err := trim.Trim(m, log)
	fmt.Print(short, cons, err)
	// Output:
	// pseudo-Boolean proof version 2.0
	// f 3
	// rup >= 1 ; 1 3
	// output NONE
	// conclusion UNSAT : 4
	// end pseudo-Boolean proof
	// [0 2] <nil>
}

func ExampleCore() {
	fmt.Println(trim.Core("var x 0 3\nlin >= 2 1 x\nlin <= 9 1 x\nlin <= 1 1 x\nlin >= 3 1 x\n"))
	fmt.Println(trim.Core("var x 0 3\nlin >= 2 1 x\nlin <= 9 1 x\n"))
	// Output:
	// [0 2] true <nil>
	// [] false <nil>
}
