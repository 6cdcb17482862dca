package big

import (
	"slices"
	"strconv"
	"strings"

	"hallmark/api"
)

// Parse reads a number in decimal.
func Parse(s string) (Int, api.Errno) {
	digits, negative := strings.CutPrefix(s, "-")
	if s != "0" && !isSize(digits) {
		return Int{}, api.ErrBigForm
	}
	return settled(negative, readLimbs(digits)), api.OK
}

// isSize tells whether s writes a number above 0.
func isSize(s string) bool {
	if s == "" || s[0] == '0' {
		return false
	}
	for i := range len(s) {
		if s[i] < '0' || s[i] > '9' {
			return false
		}
	}
	return true
}

func readLimbs(digits string) []uint32 {
	limbs := make([]uint32, 0, len(digits)/limbDigits+1)
	for end := len(digits); end > 0; end -= limbDigits {
		limbs = append(limbs, readLimb(digits[max(0, end-limbDigits):end]))
	}
	return trimmed(limbs)
}

func readLimb(digits string) uint32 {
	limb := uint32(0)
	for i := range len(digits) {
		limb = limb*10 + uint32(digits[i]-'0')
	}
	return limb
}

// Text writes it in decimal.
func (a Int) Text() string {
	if a.wide == nil {
		return strconv.Itoa(a.small)
	}
	limbs := a.wide.limbs
	text := make([]byte, 0, 1+limbDigits*len(limbs))
	if a.wide.negative {
		text = append(text, '-')
	}
	last := len(limbs) - 1
	text = strconv.AppendUint(text, uint64(limbs[last]), 10)
	for _, limb := range slices.Backward(limbs[:last]) {
		text = appendLimb(text, limb)
	}
	return string(text)
}

// appendLimb writes all digits of a limb, noughts in front too.
func appendLimb(text []byte, limb uint32) []byte {
	for unit := uint32(limbBase / 10); unit > 0; unit /= 10 {
		text = append(text, '0'+byte(limb/unit%10))
	}
	return text
}
