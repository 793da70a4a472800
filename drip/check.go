package drip

import "drip/api"

func within(n, least, most int) bool {
	return least <= n && n <= most
}

func configHolds(c api.Config) bool {
	if !within(c.Channels, 1, api.MaxChannels) || !within(c.Lockout, 0, api.MaxTicks) || len(c.Limits) > api.MaxLimits {
		return false
	}
	for _, l := range c.Limits {
		if !limitHolds(l, c.Channels) {
			return false
		}
	}
	return true
}

func limitHolds(l api.Limit, channels int) bool {
	all := 1<<channels - 1
	return within(l.Channels, 1, all) && within(l.Window, 1, api.MaxWindow) && within(l.Cap, 0, api.MaxCap)
}

func (p *Pump) hasChannel(channel int) bool {
	return within(channel, 0, len(p.channels)-1)
}
