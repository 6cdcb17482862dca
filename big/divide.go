package big

// divLimbs answers how often b, which isn't 0, goes into a, and whether nothing is left.
func divLimbs(a, b []uint32) (quotient []uint32, exact bool) {
	switch {
	case compareLimbs(a, b) < 0:
		return nil, len(a) == 0
	case len(b) == 1:
		return divShort(a, uint64(b[0]))
	}
	return divLong(a, b)
}

func divShort(a []uint32, by uint64) (quotient []uint32, exact bool) {
	quotient = make([]uint32, len(a))
	left := uint64(0)
	for i := len(a) - 1; i >= 0; i-- {
		left = left*limbBase + uint64(a[i])
		quotient[i] = uint32(left / by)
		left %= by
	}
	return trimmed(quotient), left == 0
}

// divLong divides as by hand, a limb of the quotient at a time, each one
// guessed. Both numbers are scaled ahead, so that the divisor's last limb is at
// least half of limbBase: then a guess takes two corrections at most.
func divLong(a, b []uint32) (quotient []uint32, exact bool) {
	scale := limbBase / (uint64(b[len(b)-1]) + 1)
	divisor, left := scaleLimbs(b, scale), make([]uint32, len(a)+1)
	copy(left, scaleLimbs(a, scale))
	quotient = make([]uint32, len(left)-len(divisor))
	for i := len(quotient) - 1; i >= 0; i-- {
		part := left[i : i+len(divisor)+1]
		times := guess(part, divisor)
		if takeTimes(part, divisor, times) {
			times--
			giveBack(part, divisor)
		}
		quotient[i] = uint32(times)
	}
	return trimmed(quotient), len(trimmed(left)) == 0
}

// guess answers how often the divisor goes into part, which has a limb more, or
// one more than that: it is how often its last two limbs go into part's last three.
func guess(part, divisor []uint32) uint64 {
	n := len(divisor)
	last, next := uint64(divisor[n-1]), uint64(divisor[n-2])
	lead := uint64(part[n])*limbBase + uint64(part[n-1])
	times, left := lead/last, lead%last
	for times*next > left*limbBase+uint64(part[n-2]) {
		times--
		left += last
	}
	return times
}

// giveBack adds the divisor to part, in place; its last carry pays what takeTimes owes.
func giveBack(part, divisor []uint32) {
	carry := uint64(0)
	for i, limb := range part {
		sum := uint64(limb) + limbAt(divisor, i) + carry
		part[i], carry = uint32(sum%limbBase), sum/limbBase
	}
}
