package unit

import (
	"slices"

	"hallmark/big"
	"hallmark/pb"
)

// sheet: a row as propagation goes through it.
type sheet struct {
	pieces []piece // falling by coefficient: those above a slack stand in front
	slack  big.Int // from no literals
}

type piece struct {
	coef big.Int
	lit  int
}

func readAll(rows []pb.Row, more ...pb.Row) []sheet {
	sheets := make([]sheet, 0, len(rows)+len(more))
	for _, r := range rows {
		sheets = append(sheets, read(r))
	}
	for _, r := range more {
		sheets = append(sheets, read(r))
	}
	return sheets
}

func read(r pb.Row) sheet {
	plain := r.Plain()
	pieces := make([]piece, len(plain.Pieces))
	for i, p := range plain.Pieces {
		if i > 0 && p.C == plain.Pieces[i-1].C { // most rows have few coefficients
			pieces[i] = piece{pieces[i-1].coef, p.L}
			continue
		}
		coef, _ := big.Parse(p.C) // what a row tells of itself is always a number
		pieces[i] = piece{coef, p.L}
	}
	slices.SortStableFunc(pieces, func(p, q piece) int { return q.coef.Cmp(p.coef) })
	return sheet{pieces, r.Total().Sub(r.Degree())}
}
