// Package limit tells whether numbers keep to the limits that package api names. It stands beside the layers: a server and its clients must take the same limits of a world, and neither stands on the other.
package limit

import "vista/api"

// Right tells whether limits may be.
func Right(conf api.Conf) bool {
	return Within(conf.Clients, 1, api.MaxClients) &&
		Within(conf.Dentries, 1, api.MaxDentries) &&
		Within(conf.Negative, 1, api.MaxNegative) &&
		Within(conf.Links, 0, api.MaxLinks) &&
		Within(conf.Promises, 1, api.MaxPromises) &&
		Within(conf.Queue, 1, api.MaxQueue) &&
		Within(conf.Hold, 0, api.MaxHold)
}

// Within tells whether a number is one from least to most.
func Within(n, least, most int) bool {
	return n >= least && n <= most
}
