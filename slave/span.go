package slave

import "bascule/api"

// span is some addresses of a kind, one behind the other; one without addresses is of no kind, and always there.
type span struct{ kind, addr, count int }

// readBy answers what a request that may be reads.
func readBy(r api.Request) span {
	switch r.Func {
	case api.ReadCoils, api.ReadInputs, api.ReadHolding, api.ReadInRegs:
		return span{r.Func, r.Addr, r.Count}
	case api.ReadWriteReg:
		return span{holding, r.Addr, r.Count}
	}
	return span{}
}

// writtenBy answers what a request that may be writes. It counts Values: only some requests tell in Count how many they write.
func writtenBy(r api.Request) span {
	switch r.Func {
	case api.WriteCoil, api.WriteCoils:
		return span{coils, r.Addr, len(r.Values)}
	case api.WriteReg, api.WriteRegs:
		return span{holding, r.Addr, len(r.Values)}
	case api.MaskReg:
		return span{holding, r.Addr, 1}
	case api.ReadWriteReg:
		return span{holding, r.To, len(r.Values)}
	}
	return span{}
}
