package health

import "bulkhead/api"

// care is what is done by a partition's action.
type care struct {
	halts func(restarts, most uint32) bool            // whether a trap halts it, when it has been begun anew so often
	anew  func(entry uint32) (x api.Context, did int) // what it begins anew with, and what is done with it
}

// careOf gives it.
func careOf(action int) care {
	if action == api.ActionHalt {
		return care{
			halts: func(restarts, most uint32) bool { return true },
			anew:  func(entry uint32) (api.Context, int) { return api.Context{}, api.ActionHalt },
		}
	}
	return care{
		halts: func(restarts, most uint32) bool { return restarts >= most },
		anew:  func(entry uint32) (api.Context, int) { return api.Context{PC: entry}, action },
	}
}
