package cert_test

import "lanyard/api"

// A knownCert is a certificate whose bytes were put together apart from this program, with its key, and its signature by the key of the first one, as OpenSSL made them.
type knownCert struct {
	cert      api.Cert
	said, sig string
}

// knownCerts are that of a trust anchor, and that of an end entity below it.
func knownCerts() []knownCert {
	return []knownCert{
		{
			cert: api.Cert{
				Serial:  1,
				Issuer:  "root",
				Subject: "root",
				From:    1767225600, // 2026-01-01 00:00:00
				To:      2556143999, // 2050-12-31 23:59:59
				Key:     api.Key{N: bytesOf(knownModuli()[0]), E: 65537},
				CA:      true,
				Res:     of(spans("10.0.0.0", "10.255.255.255", "2001:db8::", "2001:db8:ffff:ffff:ffff:ffff:ffff:ffff"), api.Range{Lo: 1, Hi: 300}),
				Repo:    "rsync://example.net/root/",
			},
			said: "308201340201011604726f6f743020170d3236303130313030303030305a180f32303530313233313233353935395a1604726f6f7430819f300d06092a864886" +
				"f70d010101050003818d0030818902818100c33177de354b5dc765a40217ab42afecfeb9a5e87b8397508aa4331d22c62cbb860a75a1d78fd9e41a9588b71ca4" +
				"6bd0699c38825e4013090bc7334655248d65708b14a688e920aa10c396364695a1f98b8929f0a5dfb2f571a93132d6335320b85fcb7cc40e1093ba1d82421801" +
				"cac9e5af54f8ca33c4f5f03ac79a807b97bd02030100010101ff303d300c04040a00000004040affffff3024041020010db80000000000000000000000000410" +
				"20010db8ffffffffffffffffffffffff30070201010202012c301d16197273796e633a2f2f6578616d706c652e6e65742f726f6f742f1600",
			sig: "81c344260c800d933979fa9a94a3f237e92ec61beba6087e016732b12b87baedc2c04487ecff66866490e93f2bc9087fde6e9c236f78d05e4140f48e654bbf13" +
				"a1b3cf87dc01e28d113b9f491bae43ab2541fc4a15edb6153e0fdf3c67e63cdef466cb05fc8174e29350c56d16108542cb01a090c64fc69878372694206154fd",
		},
		{
			cert: api.Cert{
				Serial:  128,
				Issuer:  "root",
				Subject: "child",
				From:    1780272000, // 2026-06-01 00:00:00
				To:      1811808000, // 2027-06-01 00:00:00
				Key:     api.Key{N: bytesOf(knownModuli()[1]), E: 65537},
				Res:     of(spans("10.128.0.0", "10.255.255.255"), api.Range{Lo: 7, Hi: 7}),
				Crl:     "rsync://example.net/root/c.crl",
			},
			said: "30820114020200801604726f6f74301e170d3236303630313030303030305a170d3237303630313030303030305a16056368696c6430819f300d06092a864886" +
				"f70d010101050003818d0030818902818100b337c423a9be8796686c91f249774f04e58189a3c5abafee2645942ad1b1ccbaf1f532cd6fc0b9782bfd7549b761" +
				"eb3bdb2edf7a8aa184c44375ddd384904f42c041cfbda4ad4bb3af80a76eaee7849b476c98fee6c63d37073a1edc1577dda1b9f5b780c0f28270c359cb09bb31" +
				"16e662885e629901ed375f8583406286243902030100010101003018300c04040a80000004040affffff3000300602010702010730221600161e7273796e633a" +
				"2f2f6578616d706c652e6e65742f726f6f742f632e63726c",
			sig: "90e5693e4b7942fe6668e6e1da4aff096039b0474aa449e893b7d85b4d2acc5a423e4dcadb462863d207fc104ca57bd8240bac652495bd203bb373d918a2e6c6" +
				"e87c7f13f1e834bddcecdd61442a8ea91c8a4eec6b53f5508cd997c58400ed110fc01229d52efe6621b8f88472f0e4e6deb0e6bd0a626d3a930b0dcc2c720dad",
		},
	}
}

func knownModuli() []string {
	return []string{
		"c33177de354b5dc765a40217ab42afecfeb9a5e87b8397508aa4331d22c62cbb860a75a1d78fd9e41a9588b71ca46bd0699c38825e4013090bc7334655248d65" +
			"708b14a688e920aa10c396364695a1f98b8929f0a5dfb2f571a93132d6335320b85fcb7cc40e1093ba1d82421801cac9e5af54f8ca33c4f5f03ac79a807b97bd",
		"b337c423a9be8796686c91f249774f04e58189a3c5abafee2645942ad1b1ccbaf1f532cd6fc0b9782bfd7549b761eb3bdb2edf7a8aa184c44375ddd384904f42" +
			"c041cfbda4ad4bb3af80a76eaee7849b476c98fee6c63d37073a1edc1577dda1b9f5b780c0f28270c359cb09bb3116e662885e629901ed375f85834062862439",
	}
}

// whole returns the bytes of the certificate, of which each known one has at least 256.
func (k knownCert) whole() []byte {
	size := len(k.said)/2 + 15 + 4 + len(k.sig)/2
	return append([]byte{48, 130, byte(size >> 8), byte(size)}, bytesOf(k.said+"300d06092a864886f70d01010b0500"+"03818100"+k.sig)...)
}
