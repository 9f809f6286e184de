package near

import "plumb/api"

// stayAtGreatest tells by mode which numbers beyond the greatest stay there: those above 0, those below.
var stayAtGreatest = [...]struct{ above, below bool }{
	api.Even:    {false, false},
	api.Inward:  {true, true},
	api.Outward: {false, false},
	api.Up:      {false, true},
	api.Down:    {true, false},
}

// way is a mode as it holds for the numbers on one side of 0.
type way struct {
	stays  bool                                // whether a number beyond the greatest stays there
	goesOn func(inner uint64, behind int) bool // whether a number with that behind the mantissa goes on to the next place
}

// wayOf gives a mode's way on the side of 0 that neg tells.
func wayOf(neg bool, mode int) way {
	inwards := mode == api.Inward || mode == api.Up && neg || mode == api.Down && !neg
	out := way{stays: stayAtGreatest[mode].above, goesOn: outward}
	if neg {
		out.stays = stayAtGreatest[mode].below
	}
	switch {
	case mode == api.Even:
		out.goesOn = nearest
	case inwards:
		out.goesOn = inward
	}
	return out
}

// nearest goes on where the next place is nearer, or as near and even.
func nearest(inner uint64, behind int) bool {
	return behind == moreThanHalf || behind == half && inner%2 == 1
}

// inward never goes on.
func inward(uint64, int) bool {
	return false
}

// outward goes on from all that is no place itself.
func outward(_ uint64, behind int) bool {
	return behind != nothing
}
