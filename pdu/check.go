package pdu

import "bascule/api"

const (
	maxBit      = 1
	maxCode     = 255
	maxSetBits  = 1968 // that are written at once
	maxSetRegs  = 123
	maxSwapRegs = 121 // that are written ahead of a read
)

// mayBe answers whether a request may be.
func mayBe(r api.Request) bool {
	switch r.Func {
	case api.ReadCoils, api.ReadInputs:
		return reads(r, api.MaxBits)
	case api.ReadHolding, api.ReadInRegs:
		return reads(r, api.MaxRegs)
	case api.WriteCoil:
		return writesOne(r, maxBit)
	case api.WriteReg:
		return writesOne(r, api.MaxWord)
	case api.WriteCoils:
		return writesMany(r, maxSetBits, maxBit)
	case api.WriteRegs:
		return writesMany(r, maxSetRegs, api.MaxWord)
	case api.MaskReg:
		return masks(r)
	case api.ReadWriteReg:
		return swaps(r)
	}
	return false
}

// reads answers whether a request reads at most most, and does nothing else.
func reads(r api.Request, most int) bool {
	return lies(r.Addr, r.Count, most) && len(r.Values) == 0 && r.To == 0 && unmasked(r)
}

// writesOne answers whether a request writes one number from 0 to top, and does nothing else.
func writesOne(r api.Request, top int) bool {
	return isWord(r.Addr) && r.Count == 0 && len(r.Values) == 1 && upTo(r.Values, top) && r.To == 0 && unmasked(r)
}

// writesMany answers whether a request writes at most most numbers from 0 to top, and does nothing else.
func writesMany(r api.Request, most, top int) bool {
	return r.Count == len(r.Values) && lies(r.Addr, r.Count, most) && upTo(r.Values, top) && r.To == 0 && unmasked(r)
}

// masks answers whether a request masks a word, and does nothing else.
func masks(r api.Request) bool {
	return isWord(r.Addr) && isWord(r.And) && isWord(r.Or) && r.Count == 0 && len(r.Values) == 0 && r.To == 0
}

// swaps answers whether a request writes words and reads others, and does nothing else.
func swaps(r api.Request) bool {
	return lies(r.Addr, r.Count, api.MaxRegs) && lies(r.To, len(r.Values), maxSwapRegs) && upTo(r.Values, api.MaxWord) && unmasked(r)
}

// mayAnswer answers whether a may be an answer to a request that may be.
func mayAnswer(r api.Request, a api.Answer) bool {
	if a.Code != 0 {
		return a.Code > 0 && a.Code <= maxCode && len(a.Values) == 0
	}
	switch r.Func {
	case api.ReadCoils, api.ReadInputs:
		return len(a.Values) == r.Count && upTo(a.Values, maxBit)
	case api.ReadHolding, api.ReadInRegs, api.ReadWriteReg:
		return len(a.Values) == r.Count && upTo(a.Values, api.MaxWord)
	}
	return len(a.Values) == 0
}

// lies answers whether n, from 1 to most, lie one behind the other from the address at on. Nothing is added to at: it may be as great as an int gets.
func lies(at, n, most int) bool {
	return n >= 1 && n <= most && at >= 0 && at <= api.MaxWord+1-n
}

// upTo answers whether all values are from 0 to top.
func upTo(values []int, top int) bool {
	for _, v := range values {
		if v < 0 || v > top {
			return false
		}
	}
	return true
}

func isWord(n int) bool { return n >= 0 && n <= api.MaxWord }

func unmasked(r api.Request) bool { return r.And == 0 && r.Or == 0 }
