package crl_test

import "lanyard/api"

// A knownCrl is a list whose bytes were put together apart from this program, with its signature by the key of knownIssuer, as OpenSSL made it.
type knownCrl struct {
	crl       api.Crl
	said, sig string
}

func knownIssuer() api.Cert {
	return api.Cert{Subject: "root", Key: api.Key{E: 65537, N: bytesOf(
		"c2338984c609b612366d03551f92bfb37abf4a704d1df7d5eeb79ff16edb71e2e3fa9162c4fb1e5f73cc363ab173c26b72dc8f6e93adb4ec2cf7ace5146c7010" +
			"e9fcfe8fd88723da3675e279b06a48d048835b570c6829d3ee9e1293ddccd41ebb6e5d59809ceacdb03250a224c36ab9cd6c2597eb1bec605c2939f0fd49c1e1",
	)}}
}

// knownCrls are a list without serial numbers, and one with some of every size.
func knownCrls() []knownCrl {
	return []knownCrl{
		{
			crl: api.Crl{
				Issuer: "root",
				Number: 1,
				This:   1767225600, // 2026-01-01 00:00:00
				Next:   1767312000, // 2026-01-02 00:00:00
			},
			said: "302b1604726f6f74020101301e170d3236303130313030303030305a170d3236303130323030303030305a3000",
			sig: "a94be3ea21fe9bc05347b9cecf3d985f907acf34f41930f4d5ced86be3bcd58b6fae28a966cb393de7e3588f362f8cacbe23891a64a07c74c114534509fcfc2b" +
				"aa09b0f438f1c16309b55a72dd01c486f07e5d0be293081ec3d5596de24e37ef04c3fb529f47da0f993193dc8406248da3fbfd95617a0c08ea7c77ee50b08ad3",
		},
		{
			crl: api.Crl{
				Issuer:  "root",
				Number:  4294967295,
				This:    2524607999, // 2049-12-31 23:59:59
				Next:    2524608000, // 2050-01-01 00:00:00
				Serials: []uint32{0, 1, 127, 128, 255, 256, 65535, 65536, 2147483647, 2147483648, 4294967295},
			},
			said: "30641604726f6f74020500ffffffff3020170d3439313233313233353935395a180f32303530303130313030303030305a303302010002010102017f02020080" +
				"020200ff02020100020300ffff020301000002047fffffff02050080000000020500ffffffff",
			sig: "4d7a5968c606734e10b140879b7ec1fc680f31dc3e79c7cb432016cc00ff36ed75148738ba1dd84b35a0ad0d6b8dbf67bb612951cd27e6c44b7532b7d0f16324" +
				"b1076d4dcd03500abb1c65d495b9a27a7441c9497de0e341c00ae5f160c7fee96d18ca43bafc1f440a91c1b915a7ce274d55f89dab06600b5ec18dd3fa36a4e5",
		},
	}
}

// whole returns the bytes of the list, of which each known one has 128 to 255 behind its head.
func (k knownCrl) whole() []byte {
	size := len(k.said)/2 + 15 + 4 + len(k.sig)/2
	return append([]byte{48, 129, byte(size)}, bytesOf(k.said+"300d06092a864886f70d01010b0500"+"03818100"+k.sig)...)
}
