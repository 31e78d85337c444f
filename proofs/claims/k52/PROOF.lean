import PyProof.Rows.All
import Wide.All
import OpenK.AllK
import Wide.FinOn
import Lean
import PyProof.EqAt
import PyProof.EqKinds
import PyProof.TupleCall
import PyProof.CollectIter
import PyProof.JoinWalk
import PyProof.StrOps
import PyProof.ListOps
import PyProof.StrLawsJoin
import KE.KRevIter
import PyProof.StrLawsFirst
import PyProof.Rows.StrNews2
import PyProof.StrLawsTight
import PyProof.StrLawsChain
import KE.KIntText
import KE.IntTextLaws
import PyProof.ListStr
import KE.KDictLaws
import KE.KDictList
import PyProof.Rows.SetFrom
import PyProof.FitsReplace
import KE.KEqDict
import PyProof.Rows.SumAny
import PyProof.Rows.CallKwBuiltin
import PyProof.EnumMake
import PyProof.TupleIter
import PyProof.Rows.TupIter
import PyProof.FactsAll.range_2
import PyProof.AutoSeq1
import PyProof.Rows.Range3
import PyProof.ZipIter
import PyProof.TupleKey
import PyProof.FactsAll.tuple
import PySem.Challenge.RW_quiltlaw_k52_whole_trees_in_rows
set_option bootstrap.genMatcherCode false
set_option tactic.hygienic false
def nop(x:Lean.Syntax):Lean.Syntax:=x.rewriteBottomUp λ|.atom _ v=>.atom .none v|.ident _ r n p=>.ident .none r n p|.node _ k a=>.node .none k a|y=>y
local macro_rules|`($m:declModifiers theorem $i:declId $s:declSig $v:declVal)=>do
 if i.raw.getPos?.isNone then Lean.Macro.throwUnsupported
 return nop (<-`($m:declModifiers theorem $i $s:declSig $v:declVal))
local macro_rules|`($m:declModifiers def $i:declId $s:optDeclSig $v:declVal)=>do
 if m.raw != (<-`(def x:=0)).raw[0]then Lean.Macro.throwUnsupported
 return nop (<-`(noncomputable def $i $s $v:declVal))
local macro_rules|`($m:declModifiers abbrev $i:declId $s:optDeclSig $v:declVal)=>do
 if m.raw != (<-`(def x:=0)).raw[0]then Lean.Macro.throwUnsupported
 return nop (<-`(noncomputable abbrev $i $s $v:declVal))
local macro_rules|`(command|set_option $o:ident $s:str)=>do
 if o.getId != `tw then Lean.Macro.throwUnsupported
 let n:=s.getString.toList.toArray.map λc=>if c.toNat<64 then c.toNat-35 else if c.toNat<92 then c.toNat-36 else c.toNat-37
 let a<-(List.range (n.size/10)).toArray.mapM λi=>let x:=(List.range 10).foldl (λa j=>a*90+n[10*i+j]!) 0;let y:=Lean.mkIdent (.mkSimple s!"tw{x}");`(command|theorem $y:ident:True:=⟨⟩)
 return Lean.mkNullNode a
namespace PySem.W.Fast
set_option tw "-V9L&saJJPC+lZB9txR3Ed&RMGk`iPK1b,0=^d[J.2Hc4}i-L+N$])Q-mc9/Gt]{60*FYRECON5smOYVCbC~F5b5oq=F_uI]H93L&j/K-bBsq3K;bf'IG8[1,PZO3)+K>kQkch,tz|l{07D;r&yJ~1).Dl[K(OT?ClCAZ<rMOK8YSV8{J?6W*x)2l~bO6tMmkOL9~g;fCBJ=k#gnptG=bYeY,GH828dCqfXc*hAckC;fK)#fG%3BACnw|p%A<~J>qIOCF5'R$x^H,2(%DX(SlU6l8*l4mbZMS|Advr%_./_Y1vagc(-5MSHlg7sWy?gQ#/r8of/26K.sx(hi9QFn<WnfIebV3UG1]P2<UZZ8-XZjoK2)|O+pKgJ6__af0,n<5[6(ddSYdktcoKk<$$;[Jk/MDbAUZ#z45Whl+Q<Ev{4%[`J62jB*AzGKFIl#$hF$N_38<gFiXPf;P;di6D>lLc,ZvEm&;TU]GV+ybS^ofm-5j/Wl{%b+'hOS%3]N+o8FZ94GAmok3NGkjt)[{o=.?AZQ6}4e)Mcp9j:v<q3SQ<Z3loxX-4Z;*g,m{BC0t22fhRws.ZHW>^1NRRM3'1%1iBigGtkRibx<)_'IX3o?YN;G0loqT3M~{>&f{6YENi7OAQpGqsywrMM2`m|^SIt$$l%%QW>bu*D)JONzzO1x4c_d2eYG6$.Eh+3c_`bzEN.u+*ea;WEC*=_oOT,EMmE[.+Z{4$:L:iF#H1+`4s<^&U-YMj,Y]I#;l4T*&rNGr^g{aW+X?D:i[&$j)YGdFQ+ZPG>RHeEuY&DtBY%?>:_U2<PwL>cHVt9?LiQ-Hem1uP/5VKQc<1oeCJN|Zklie?4j7MD{'IN/AwHY)3r9,=Jo'u|,kXY5RVL+i5}=fFD`yFXNpyBTM7wx{.Sux1%8{C*2O<|F-S2CZ.z,kq?4eF=own4{/Y:#5'xtZy(6hzObQ[=P&>a)&B^/DP3+vD?Jncn_MQX,du7Y{y%rwD7[GDX7P,.Nfv(WrR1IQxWOsu%4$Ze$55&|Vb4*[f|M<B9<5f*:d$EKzSD*FO<sn?mACXGNJ;kMiM'4p2QBk3b&:43kVs*5Ih'm'<no%qE.-tV%X4l#*K(ze4KK1XHQ3d/%sZWx7~A>9b1wC{uY7zK5:K8aqj,:4Am0Q'[l0SX2Ogeo^W2,.SFD7~9I>N-$?7DJ1f,w<dOrAvFYEva2.~AHkEE0o8;LdA|&8P8~X3-M2.S4A1ec^?jO3rem6d{)0>E}xx/NO~)QJ+Z.{;T/](+M7,}-.gNFR$h9+0y`'FIcB?|`u;RoACP[8XG)jyEk<iDc8vPF1VeKu9W/7{O>&8rY+n{{$c<f30Ip9J+LmE}Vh0z}8o9*Ye=#O]LUGZ_y](%c0x?gy.XL4?002ccbx|t?4nf;q5-8pH&G~Q`Lh0^u:Ia3JUXiyB++'SMZ0W~+7'X{s0R+l3)cFs~fC0h?Ng5Z{%>WhyM&*d?,D|'wLkK?1X1y&}C0-hBAN;EPBO9>w;~5r'({*8aE^ZxLBf+2i[%h;oLb8~<O;dGq7t/bb[Ii}RF9]wAh%L:3:N5aBF7/p^,V[M0<(.qOILo4U{HrYvK_D>#Rt,3p%_/0FF>^dj=hZLXg']j($_}=Kh^Clb9*,,'OH~uW?2L7CV(~A,KE6QrQAfHGI+(EnRG~]`/^BM3Ivh042u|Oq{ltE~7W7kTf1zR*8CDR*C2F=W;dr)CaDi1pKZv#mT$^284x=eoH,e`ERb<A[*)w8A)<1V&e{~n,K)=FCmZp}>$O4D>r=|I-=Fi}Qyr{CF8.L<Y^9F(BB4]~l;O29}GDa2--<3c7*RN#AYn:,-%PxpCnV=`%8V^N/,uOl{<_*tF$.h_uH*~-&J18JLKQ=:I+6`zgRYTaG-Cq>FGLFymH4C6{/)`pYM2R&=$|mup3K_?3RLOW]r=PgHM7GsGr;QjgH?(s'Cw4kLBoS$Wa8eLT,I<eqzQT9X*4{UTY.7O5>>;x(G{?89Ivb9~Di%UJ<p/fs|0l;HD:|AY1x;,k-W]0#`*x<-9TvjWSAU+?-`Kw&'yK*Z2n<BI<=oWx#:8UAy0T?M2Olxq&uzY&NKVSD.z34:#}wLj2:d4O,%o`$;(+M|O~,)U$~{w(+Q#2}p%4LzNiatzjCDWW3iDz0p-JR(4889__1vzx,cBs~Xl:J^O2_$Ov_$s^:1Ra;bhP,*G0nwV2u'.O49:(IWQ6Dj2OL0Nk~`V$9eY>lBs3%I8aBf9YYBS6FkPZW-bD|O:BZ8LeQiQdMAFZ0L%pEx2KIk8i_b?QC29Xw}v[,`I}1c|-u[/zPwViV<mj2dJLxb^>v>U.L_G}q~vcRr<fveb~qCiZ4lvo&u),8y(c,bl0>-M3:F6^;B%#paB*r~sdd=LN2n|GuV{A|34Q$QW[V567LWRd?}Vr~?;u5,OtCXn+Dr>DN:yj3kCb[+xH)*^yOMU-O1:z2;Li%Y4<7B+5#9m88i4I~H&E4ojx1Ql#-X.Yp>gD&aN?a_]QupK;&X6#;1BO=-&;;txY}HTN,PkYtvq-9Z<o[UoYC:c_.dfF`LGh}Z*)Y],V*^We0[S`&>(qc9)SwCr5Dykc?u/,|C[JcB:u^YmbP`YQ:1b'MHI$0Q#CImZ-=JYE8nGHv_gF^nFy1*wlvIVp887f3Ym>a:=:Ehbb?(>MN_YkY)4'Tx#iaqlVDEPt+$bb2:.5<v/mkwG?bP=SHq[1)wjBIn-g_gyRp5:8/U$=8&>YQA:eBJ(Fs.Z67DV}0%`IeCG8vh&4e0YI&1{4=>FXstD^~ZN<1=Qv0skv=TN-J:ENpt]e)jG^JwnzrQv<Gf9L>0`2}Zb4-xBgK;f<vIE#21M3:FA~6VXI`z-<zjNgw3oBra^nH6NM`0#$Eb:Dij|D:~*~=I{$H<b2}LQ'/WZ(BYJa50wtCrr/1;GkBRC/ji=TBe,}oUJ}Io(T)TasU(BH.gCiNgu{}iJY_y8_$.UBJlIM?3N*kH3SSHt49,NiI^r8*r]CpgIG`]puwfMs)/R]*A-%>J2;rbPrjafNCCNPKf|csD7`]/C|nY#D*r=8dz~][c&5h)3Q:y?a$r({).^]j5.E3HFsgfg'5*Qu/]GPH?#BtYNkX$:w?.a/%_c;SZ9c'Czp_?t{&Zn)ZZS[*FPq``LY?pN/5Kf-6b8>}]49<P_FlSJbC)xKqe7:<*:r$.+DHyn6M|/:<+tg'(Npo5KR2>$tR?uQ+YxY?<?&+:U}<^:OG|FAgm%746,u8*4%`5?YEu?{o7f$<|NElOWCYB2:Q?FVW{%?/Y05HgqG#`P<A1W}STuL;AGph;<FmW~:+#4HI?rumY-;2.3YAts0/q<^8>78_IF9q?2p<?D(F|3X3+-ljC92n^];tl^t7bRsrD`(,[8x+lnUF4)Q4Wy_~#4kT0+,/M]xi2020]>49pM{izKC0Rt5{}lKFJH(lykBgvIX]0tCmg;I0`flF.|c<&A%p>`mP=;Y7,DU[[A'&[SZ$9kpX2vl%=6h]Zg%?bSP5P|l6CuMGzxkefH+bp-#{JxiwRB<<c35JFk1*2BgA7R3o0|6,Eju5tB<5Y:E8OkFOSyw(6Or*+fUl/.{dgw]1T_=RXN/ds]P'9H1om6cg[G7.{`~MWKPwF7/LJzy.75V:c8G4xI{<X'G,T4HI)iJ&}g?LYkuF=/:RPme2gy)C:}pMR^74aM[~';L,YYu+5dr~iF4wkR$&qQ2tI`XBCFj_f-3o-'J`5:bM5K}D->.,;?g2$*cIe&H:Bal0}qfDR^yNx:]0A~:)*MM4$$lh/dv+G3Ob2+.0i$0/6VVQsByP:E#~_'|/-rjH0q?$/fas.S:e>)xYvJ[;VwT*|8)Yb96K>k'&~.zJb3?<SZ'zAQB>3e<th].BK*FebRh;x9UlFYg:B$(8Ce_'dtt'GElDkK<25uC0WvdC'L2HpGqX3cJ},tj+~Qz3$M~{;4XpWf8Vsr)%[l*oi*fa?F&[*dv3caTOXPDy{)TsyK5F73$~9W5:87tK6SWBT>kw[1hmy1i2Tr$i=(*A_762>nRBKr55=]pqMB',{N,)39i(wU)L~:jHe`H};8Y,;vW39um=DVp*TRTc7QQS|F(E7vs+ikY$vPJQZPqZ?g{%<_;%cDMytq8{TD3qb+}/-dh-T4*FU/-9AC9g'v[p{`x$(XR]vuzYp?/>+QqSuA*;LzmhGsfA`/f).d<7Y1fGs3/WeTZ+M<^Uy0Ck~/z/W6/=bw#NQ'/i<kE*HPE+KSA.pB9G.+DrO+J-<'YC^2Kgm.}-9Q4_&%S7&/B5l`WS^e:)o7Tzhm_ms['.'0|9c:4*DJJx*TP]cQm'j1eLVT{LN3Zv[>BbRT50?8|l+Yg}wNz[5uJ|~z78cbssF8`O#BC'0/B47&/'-9$HYRfN-P5uD6f,&zq/P`H[SJD1J)Y%K$V3r`e(0`g5(gT0eDjeMj:yHS/J75S'YIgJ9E;W3aL>n;J:nc>mj;y^+EDD*JX=M.#*xu-F1P12y-l#Q_5lG5_>a[hUWB?>'RVn;OJ3>:3DwY7BfC,^a4h5'$d,=hI09%'3Z^9Z:2'NMu<.hTC0Oa%l^}rJW&ujQ(YXY-pM}d<_>cCC46bAfz?|R^<4vZdBLDwYM0%I2E%e&jjEKgcD+HpN&-HG>gn)ai>-N=or'jXrMEq~,b9M*I0LSrAA-qUTSN~If[Q~5ipB.Xzo|S:yK8Xhg4nm`NWF'w65W/]]W2R%G)$38'*4l<6-z6o[0H2#Un-S)H`8;=$^KASS^;gCG}uKASfP5Ou~Mk)cSJ{P-FK?Ykx<G.]|r)'gS1(w/{rq$h4N2N(6a;Z].'z8v?>3n(B#,GRv}Ka.R/6-#_[SEsaG/eC43|,gH#LhFrp>k_u-21W{;N,<ZFHt~c`T-^wJh`m#c|)}y(-YJ*3I<Ni:x,4RgSpoP.F#xhl^#$g00Q^*E*V)L+a+b1G%,a]ME+nGx0;&sB,n<sR-ebVB)nHdNkE^9F/F('c8vXD&WaCc##I,{<(|'[PaH?/?Q`jSIa*>NCt^Yw^Se+A/k8g~oj)zx5>tS&VVv1YKlY[b)`-u8Gf(T{kJw4&KFrZ,spO1(0DNz:6WjyU+E~--d0.SOLeD5jVYAqE,b$aoG(O2O'%x'*.I_u8>~#<Mt(^HU-MW'j8M<],<(wM*$D`txO$<[q[3Y^*IM}Cpu.w5E9yb`gme1%nA;hW2_I)mjFFW{>#2Xo,Pm2f%^}4#f;ik)L^x*_0Fbq~f9SlOG6]A'D9[iurRFKX^Dt3-^>plM~~5-K]O17OKoFr%B#3&~E3034y-Du{cKQ3o=IF+$-oYGdaRRa4)5W:8e*.oQVac0C/2P&HYoGF/BMBt|(>YLKLQUQs=8-Ovu#{w).mrMzm3Bp=aK~)9-/Y/c=T]9UHRWi9<^M'EyC?e+PN':PF3;xs4xIQL=:>?bz&]Oy5,DGhSy4i`e2ObR8W;c(q8,UqC:X$ELDhYC]yK;~X*YuH3#N6paLndD{'Vb#w$o9~ZdwQYEAN{6Fz)qXdGGO,Cg.4CYQdHE1FHY:0$EB[;QJ$?`<e2nIl^4bn1Q>9|Y(:($Amca.WA>f~:_E}<2t3E8Pl5dZqllJl.vn$Ht(LQQH7v%>:|(l(G'RM66pZy25wtuHs8aq*:c>&?;S+vjHo0.DHiQapJ<})/MsnCQ0g1>s8L1JW1Tfz-Bv=qtLv(aAp6UME-rWsyvI`D6Bk5W7l:9o6G>]aSO=crRP$(0TuX]u]8bL[PB^1Bq4CzBBO|-L}&&8nkW`u8s3x4rl$jK%TPE81l}b&Y%1eFw$Lx*R}B>Oy&wLa+]QZNlXFu~~-=7Kc[OXy[%5}LbO/j&G{?+9.11zL]e<+{+sF#R^{11DRQe&R|5;^wP9S%rP/Pp(^Wg<yKo1(GqVFbQ)D>4MNIH8xB}C([kw96R6_+E_q%E|M9T5wE$>E|o]]#5FElSaBWF=a:C^8?FTDI.:K)sEv%})UZn^i]alwOP>1WZq_81Esf<Bl$Mhs.f=H0iZF)HD2YxdR#kmT3'Cd>&f7wa=7*o*23|s#4`Agwk&Vm+J-?&uMJ=WhP`ilHAmJv:*?nDbd*G5v<lNdzn'Hlh2KpNH1(Wib(=&iOhSR'v+$h7w2c9}U+Tm2n*s9KO5P$+%-YY_~.fTZDLRj8W1JHt(2l'QtH|s2,wr9I[H,TOxH;J8CQWE(OTj&)M4'J.dmCNd6CuQM=fN`l[(wM$Y*5%oQ7X$DGqYoeoQSW(Mf~<o_=$hdVj.{(]-7'n*Zt+wsBOf]]j~wRs7bOIyh.vc%'A0[E[?#BBHKE[n27[&D8}^(5&t*W+.3xgzb02[3D)D%.<y?N{N%6aaYA)D-MOyKqvVsAT:ba9uJv0Tc*l01ihLLgZ%B1+=m>RoJ7=]7TRE7M}AA0yH_E*h+/(NbTd2I;sEIBOU[>}H-P>$tV.C'NB?.Y^5KmR6H?mFqc&)94+;J0u*Zl-6/A$STv<dA[M4k}g[kx?_SAl<2HjwZM~$dYW`pE`NxOuH2F{Gj0bL1/b>MX,|v=dPlKHm<W,I_P)M,8dI(1G&(EtC{=[>p^J'1f{FKQ^Xc7|m}#OJz8#ody+0^1^$E>U6/1:+$_(KXvu`8K-H7-_7bW~*Xsdo2XXR2C?jr3D-Zc*SDL&vHG;qO1041-?X&U8/6fK+R^NCI4.|t0oE}S0*'hZf11%E,Cm);f[hX^~-:h3Yjs8W~6Y5m^**:M0AhbBp3J?=]#_FwZQ-mo}RBfGDn}X_;CR#lmaYLjwO%Z2=/iR;y&vYB5C8Q+D9Fm#z}V-o#,KUb/WjpI9K$.]43iE1q5$,>`Qi)TXC~z,s,#9=T.iWnHd>X{L.tmf$,<VEg7.1B?y0U]#BP)1+$/Bj52m;gXGh={TQq2I/PT/zo''Rh:V>FVL0Ye%b/9%JL3]=FU|rt?TK`]i(Yk,(98uGc(wzw]?6Fh#n4'Gfk4b[$PpOhRa,aW.#nmD]a%%BjW1vFi'6Fr}'bBq.2G0dfg/`27fBY,LS+B4v2?:#in:jd3n3'kHP6QE^|)X/(lpBskn:m^ne*u*|`/.8*Kx8Ln>*]x8EH6}G|)'CY=aCmZM$`-vxm7c=E<k?IeqjB4hQ]x4BXeyXjGRoq&oYJvh4LWfpaj6b::p{;V{)]WC41o2.VU[,SF9d|oo[4Ul7l7QS]fhIKPlo:${#jkr*^=F:{W#mz6aJ_0s8&[7H5n[i?fb;51H|wSew)Mq8%Q[+]s)&+:X66;wGdm=H6.C$55RSu*~gt]vyw07=ti-S_e,+o5?C|YNX-0i*yg9#;8E5BL6{sk8G::HGZG|(Amm.TNe;.bZBBPB&`bxIA04rT6vd1;k0n7o5V=|R/z:aF1>Wo^<EYA#?(rh=ou:H=LF~{PdT)RoJE2e0CH+}B=jfDy$otCaJUF$O[r)`3=tk~pcmIT--1uza{6IS/+=i#swj(eF6ls(plTX-=Mm48:fZ+/J.*iG9u-]RFLdi2YdyS]%.n:KRE,N:MFV(GCwcACz'UyAU#L7OvO$d4[)Hi0A$F6k)+2?jY<6f`]|#%2f+vdmv(90lz='9(RlvcLd/l;TBc.q4b3v0(+YrF2^P.uJYz*4e6I*:%C.*Xr8==:`9zk7dME|Zr}>mN^b8_+R66Lhf,/9:9nTN.Dh:Osi{yALitSU_lm&12#GBi9gcs.(ux:IRsrJg,,$*^x.uyG,CA)Qa/Znkn3>$BFnfyG1(rKtw#)W6bbv/dLNq|+*gCDbS/Pn-yeS<b6Rs<q+J6E7+3Lw0T~QB^JCb={633"
end PySem.W.Fast
set_option autoImplicit true
set_option relaxedAutoImplicit true
abbrev q04:=@PySem.wpAny_bind
abbrev q05:=@PySem.wpAny_pure
abbrev q06:=@if_neg
abbrev q07:=@if_pos
abbrev q08:=@decide_eq_false
abbrev q09:=@decide_eq_true
abbrev q0A:=@List.getD_eq_getElem?_getD
abbrev q0B:=@List.mem_cons_self
abbrev q0C:=@List.mem_append_right
abbrev q0D:=@List.mem_append_left
abbrev q0E:=@List.take_add_one
abbrev q0F:=@List.take_of_length_le
abbrev q0G:=@List.mem_of_mem_take
abbrev q0H:=@List.length_range
abbrev q0I:=@List.map_congr_left
abbrev q0J:=@Option.getD_some
abbrev q0K:=@List.range_succ
abbrev q0L:=@List.length_zip
abbrev q0M:=@Bool.and_eq_true
abbrev q0N:=@Nat.le_of_lt
abbrev q0O:=@absurd
abbrev q0P:=@congrArg
abbrev q0Q:=@Option.some.inj
abbrev q0R:=@List.filterMap_cons
abbrev q0S:=@PySem.sizeLine_eq
abbrev q0T:=@PySem.wpAny_mono
abbrev q0U:=@PySem.wpAny_holding
abbrev q0V:=@List.length_singleton
abbrev q0W:=@Bool.false_eq_true
abbrev q0X:=@decide_eq_true_eq
abbrev q0Y:=@List.nodup_cons
theorem zzl(h:1=1:=by exact Or.inl rfl):1=1:=h
theorem zz0(h:1=1:=by rfl):1=1:=h
theorem zz1(h:1=1:=by decide):1=1:=h
theorem zz2(h:1=1:=by decide +kernel):1=1:=h
theorem zz3(h:1=1:=by first | exact .inl rfl | exact .inr rfl | assumption):1=1:=h
theorem zz4(h:1=1:=by intro _;rfl):1=1:=h
theorem zz5(h:1=1:=by with_unfolding_all rfl):1=1:=h
theorem zz6(h:1=1:=by first | exact Or.inl rfl | exact Or.inr (Or.inl rfl) | exact Or.inr (Or.inr rfl)):1=1:=h
local macro_rules|`(tactic|omega)=>`(tactic|first|lia|omega +splitDisjunctions)
set_option linter.all false
set_option Elab.async false
set_option maxRecDepth 100000
abbrev M5:=PySem.Value->PySem.Shared->Prop
abbrev M6:=PySem.W.Frag
abbrev M7:=List (PySem.Addr×PySem.Obj)
abbrev M8:=List Nat
abbrev M9:=PySem.Shared
abbrev Na:=List PySem.Value
abbrev Nb:=List PySem.Addr
abbrev Nc:=PySem.Str->Option PySem.Value
abbrev Nd:=PySem.FuncData
abbrev Nf:=PySem.Program
abbrev Ng:=List PySem.Str
abbrev Nh:=PySem.Around
abbrev Ni:=PySem.World
abbrev Nj:=Option PySem.Addr
abbrev Nk:=List PySem.Expr
local macro_rules|`(term|⋯)=>`(by omega)
local macro_rules|`(term|nofun)=>`(by decide)
abbrev L_:=@List.getElem?_eq_getElem
abbrev L':=@List.getElem?_eq_some_iff
abbrev Ma:=@PySem.Heap.get?_push_of_some
abbrev Mb:=@List.length_map
abbrev Mc:=@List.mem_singleton
abbrev Md:=@List.getElem?_map
abbrev Me:=@List.mem_of_getElem?
abbrev Mf:=@PySem.Heap.get?_update_other
abbrev Mg:=@PySem.Heap.get?_push_size
abbrev Mh:=@List.size_toArray
abbrev Mi:=@List.getElem_mem
abbrev Mj:=@Int.toNat_natCast
abbrev Ml:=@PySem.Heap.get?_update_self
abbrev Mm:=@List.length_cons
abbrev Mn:=@List.map_append
abbrev Mo:=@List.mem_append
abbrev Mp:=@List.map_map
abbrev Mq:=@List.mem_cons
abbrev Mr:=@List.mem_cons_of_mem
abbrev Ms:=@List.length_reverse
abbrev Mt:=@Nat.lt_of_lt_of_le
abbrev Mu:=@Nat.ne_of_lt
abbrev Mv:=@List.getElem?_append_right
abbrev Mw:=@List.getElem?_append_left
abbrev Mx:=@List.length_append
abbrev My:=@Nat.le_refl
abbrev Mz:=@Nat.zero_le
abbrev MA:=@Bool.false_ne_true
abbrev MB:=@PySem.Heap.lt_size
abbrev MC:=@Option.map_eq_some_iff
abbrev MD:=@List.getElem_map
abbrev ME:=@List.getElem?_cons_succ
abbrev MF:=@List.map_cons
abbrev MG:=@Nat.le_trans
abbrev MH:=@Nat.lt_irrefl
abbrev MI:=@Nat.lt_succ_self
abbrev MJ:=@List.append_nil
abbrev MK:=@List.append_assoc
abbrev ML:=@List.getElem?_set_self
abbrev MM:=@List.take_length
abbrev MN:=@List.length_take
abbrev MO:=@List.length_drop
abbrev MP:=@Nat.lt_of_le_of_lt
abbrev MQ:=@List.length_eq_zero_iff
abbrev MR:=@List.mem_map
abbrev MS:=@List.all_eq_true
abbrev MT:=@Nat.add_le_add_left
abbrev MU:=@List.getElem_toArray
abbrev MV:=@List.nil_append
abbrev MW:=@Int.emod_nonneg
abbrev MX:=@Int.emod_lt_of_pos
abbrev MY:=@Int.toNat_of_nonneg
abbrev MZ:=@Nat.min_eq_left
abbrev M3:=@List.take_zero
abbrev M4:=@List.drop_zero
set_option hygiene false
local macro_rules|`(a⁻¹)=>`((.ins C g [("name",.str (tx n)),("cost",.int c),("part_names",.ref l)]))|`(b⁻¹)=>`((hr.mono nofun))|`(c⁻¹)=>`((model X.prog X.w))|`(d⁻¹)=>`((model prog w))|`(e⁻¹)=>`((az aw (al 1) ah (λ_ _=>rfl)))|`(f⁻¹)=>`((.builtin "object.__class__"))|`(g⁻¹)=>`((az aw (al 0) ah (λ_ _=>rfl)))|`(h⁻¹)=>`(((backTo pos (starEach es X.env)).any (·.1)=false))|`(i⁻¹)=>`((by kernel_rfl))|`(j⁻¹)=>`(((x==("__debug__":Str))=false))|`(k⁻¹)=>`((excClassObj nm q C N bs bm hdct sn sub ab col dd k0 k1 k2 k3 k5 newId))|`(l⁻¹)=>`((.ins C g [(("signs":Str),V.str (tx b)),(("start":Str),V.str (tx c)),(("kept":Str),V.ref j)]))|`(m⁻¹)=>`((by decide +kernel))|`(n⁻¹)=>`((aC aP rfl nb.len aR (aa (az aQ (al 0) ah (λ_ _=>rfl)) ac)))|`(o⁻¹)=>`((some (.builtin "object.__setattr__")))|`(p⁻¹)=>`((some (.builtin "BaseException.__getattribute__")))|`(q⁻¹)=>`((s.heap.objs.size+1))|`(r⁻¹)=>`((.ref s.heap.objs.size))|`(s⁻¹)=>`((X.blk (qy own js X.N) s H scope fp C))|`(t⁻¹)=>`((X.fn x=true\/X.env.scope.names.lookup x=some .local))
local macro_rules|`(↑$f)=>`($f P w K mg base bF)
local macro_rules|`($a∣$b)=>`(($a).cal l.prog w base X G (λ_ F m k b=>$b))
set_option hygiene true
namespace L2
open PySem PySem.Spec PyProof.Rows
abbrev c8:=Sum Int Str
def sZ:c8->Value->Bool
 | .inl k,v=>Value.isInt k v
 | .inr x,v=>Value.isStrOf x v
def Jh(w:Ni):c8->Int
 | .inl k=>hashInt k
 | .inr x=>hashStr w x
theorem cy:∀{k:c8} {v:Value},sZ k v=true->(∃i t,k=Sum.inl i/\v=Value.int i t)\/(∃x t,k=Sum.inr x/\v=Value.str x t)
 | .inl i,v,h=>by
  obtain⟨t,e⟩:=Value.isInt_shape (k:=i) (v:=v) h;exact .inl ⟨i,t,rfl,e⟩
 | .inr x,v,h=>by
  obtain⟨t,e⟩:=Value.isStrOf_shape (x:=x) (v:=v) h;exact .inr ⟨x,t,rfl,e⟩
theorem BI(i:Int)(t:Tok):sZ (.inl i) (.int i t)=true:=by simp[sZ,Value.isInt]
theorem Cy(x:Str)(t:Tok):sZ (.inr x) (.str x t)=true:=by simp[sZ,Value.isStrOf]
theorem HE(a b:Int):decide ((Sum.inl a:c8)=Sum.inl b)=(a==b):=by
 by_cases e:a=b
 ·subst e;simp
 ·have h:¬ (Sum.inl a:c8)=Sum.inl b:=λq=>e (Sum.inl.inj q)
  rw[q08 h];exact(beq_eq_false_iff_ne.mpr e).symm
theorem He(a b:Str):decide ((Sum.inr a:c8)=Sum.inr b)=decide (a=b):=by
 by_cases e:a=b
 ·subst e;simp
 ·have h:¬ (Sum.inr a:c8)=Sum.inr b:=λq=>e (Sum.inr.inj q)
  rw[q08 h,q08 e]
theorem G6(a:Int)(b:Str):decide ((Sum.inl a:c8)=Sum.inr b)=false:=q08 (λq=>nomatch q)
theorem HH(a:Str)(b:Int):decide ((Sum.inr a:c8)=Sum.inl b)=false:=q08 (λq=>nomatch q)
def cI(prog:Nf)(w:Ni):PySem.KeyKind prog w c8 where
 is:=sZ
 hash:=Jh w
 inj:=λv a b ha hb=>by
  rcases cy ha with⟨i,t,rfl,rfl⟩ | ⟨x,t,rfl,rfl⟩
  ·rcases cy hb with⟨j,u,rfl,e⟩ | ⟨y,u,rfl,e⟩
   ·injection e with e1 _;rw[e1]
   ·exact nomatch e
  ·rcases cy hb with⟨j,u,rfl,e⟩ | ⟨y,u,rfl,e⟩
   ·exact nomatch e
   ·injection e with e1 _;rw[e1]
 byValue:=λk v h=>by
  rcases cy h with⟨i,t,rfl,rfl⟩ | ⟨x,t,rfl,rfl⟩<;>rfl
 pyHash:=λhv h=>by
  rcases cy hv with⟨i,t,rfl,rfl⟩ | ⟨x,t,rfl,rfl⟩
  ·exact wpAny_pyHash_int h
  ·exact wpAny_pyHash_str h
 eqBool:=λhu hv h=>by
  rcases cy hu with⟨i,t,rfl,rfl⟩ | ⟨x,t,rfl,rfl⟩
  ·rcases cy hv with⟨j,u,rfl,rfl⟩ | ⟨y,u,rfl,rfl⟩
   ·rw[HE]at h;exact wpAny_eqBool_int h
   ·rw[G6]at h;exact SeqAt.EqAt.int_str i t y u _ _ _ _ h
  ·rcases cy hv with⟨j,u,rfl,rfl⟩ | ⟨y,u,rfl,rfl⟩
   ·rw[HH]at h;exact SeqAt.EqAt.str_int x t j u _ _ _ _ h
   ·rw[He]at h;exact wpAny_eqBool_str h
 «strs»:=λk x t v h=>by
  rcases cy h with⟨i,u,rfl,e⟩ | ⟨y,u,rfl,e⟩
  ·exact nomatch e
  ·injection e with e1 _
   subst e1;cases v<;>rfl
theorem xv(prog:Nf)(w:Ni)(i:Int)(t:Tok):(cI prog w).is (.inl i) (.int i t)=true:=BI i t
theorem wn(prog:Nf)(w:Ni)(x:Str)(t:Tok):(cI prog w).is (.inr x) (.str x t)=true:=Cy x t
inductive V where
 |non | bl (b:Bool) | int (i:Int) | str (x:Str) | byt (b:Array UInt8) | flt (b:UInt64) | ref (a:Addr) | ty (n:String)
 deriving DecidableEq
def bi:V->Value->Prop
 | .non,u=>u=Value.none
 | .bl b,u=>u=Value.bool b
 | .int i,u=>∃t,u=Value.int i t
 | .str x,u=>∃t,u=Value.str x t
 | .byt b,u=>∃t,u=Value.bytes b t
 | .flt b,u=>∃t,u=Value.float b t
 | .ref a,u=>u=Value.ref a
 | .ty n,u=>u=Value.type n
abbrev bd:List V->List Value->Prop:=Paired bi
theorem bd.length(r:bd xs us):xs.length=us.length:=Paired.length r
theorem bd.get:∀{xs:List V} {us:Na} {i:Nat} {x:V},bd xs us->xs[i]?=some x->∃u,us[i]?=some u/\bi x u
 |_,_,_,_,.nil,e=>by simp at e
 |_,_,0,_,.cons r _,e=>by simp at e;subst e;exact⟨_,rfl,r⟩
 |_,_,i+1,x,.cons _ t,e=>by
  obtain⟨u,h1,h2⟩:=bd.get (i:=i) (x:=x) t (by simpa using e);exact⟨u,by simpa using h1,h2⟩
theorem bd.set(r:bi x u):∀{xs:List V} {us:Na} (i:Nat),bd xs us->bd (xs.set i x) (us.set i u)
 |_,_,_,.nil=>.nil
 |_,_,0,.cons _ t=>.cons r t
 |_,_,i+1,.cons q t=>.cons q (bd.set r i t)
theorem bd.append:∀{xs ys:List V} {us ws:Na},bd xs us->bd ys ws->bd (xs++ys) (us++ws)
 |_,_,_,_,.nil,s=>s
 |_,_,_,_,.cons r t,s=>.cons r (bd.append t s)
theorem bd.take:∀{xs:List V} {us:Na} (n:Nat),bd xs us->bd (xs.take n) (us.take n)
 |_,_,0,_=>.nil
 |_,_,_+1,.nil=>.nil
 |_,_,n+1,.cons r t=>.cons r (bd.take n t)
theorem bd.drop:∀{xs:List V} {us:Na} (n:Nat),bd xs us->bd (xs.drop n) (us.drop n)
 |_,_,0,r=>r
 |_,_,_+1,.nil=>.nil
 |_,_,n+1,.cons _ t=>bd.drop n t
def kr:Option V->Option Value->Prop
 |some v,some u=>bi v u
 |none,none=>True
 |_,_=>False
def KV{κ:Type}:List (κ×V)->List (κ×Value)->Prop:=Paired fun(p:κ×V) (q:κ×Value)=>p.1=q.1/\bi p.2 q.2
def kV:c8->V
 | .inl i=>.int i
 | .inr x=>.str x
inductive HO where
  |lst (xs:List V)
  |tup (xs:List V)
  |dK (kvs:List (c8×V)) | dT (kvs:List (List c8×V))
  |set(S:Int->Bool) (n:Nat)
  |ins (C dx:Addr) (fs:List (Str×V))
  |own (x:Addr)
  |xd (fs:List (Str×V))
  |met (f x:Addr)
  |rng (lo hi:Int)
  |frz (o:Obj) (u:HO)
  |tbl (ps:Array Value)
  |ext (φ:Heap->Prop)
abbrev Hp:=Addr->Option HO
def aA(H:Hp)(a:Addr)(o:HO):Hp:=λb=>if b=a then some o else H b
theorem ad:aA H a o a=some o:=by unfold aA;rw[q07 rfl]
theorem ao{a b:Addr}(h:b≠a):aA H a o b=H b:=by unfold aA;rw[q06 h]
theorem nj:aA (aA H a o) a u=aA H a u:=by
 funext b;unfold aA;split<;>rfl
theorem Ik{H:Hp}{o u:HO}(h:H a=some o)(h':H b=some u)(d:o≠u):a≠b:=by
 intro e;subst e;rw[h]at h';exact d (q0Q h')
theorem aG{H:Hp}{o:HO}(h:H a=some o)(h':H b=none):a≠b:=by
 intro e;subst e;rw[h]at h';cases h'
section
variable (P:Nf)(w:Ni)
def bX(H:Hp)(h:Heap)(a:Addr):HO->Prop
 | .lst xs=>xs.length<=sizeLine/\∃(its:Na) (n:Nat),bd xs its/\h.get? a=some {cls:=.type "list",data:=.seq its.toArray n}
 | .tup xs=>xs.length<=sizeLine/\∃its:List Value,bd xs its/\IsTup h a its.toArray
 | .dK kvs=>kvs.length<=sizeLine/\(a==sysModules)=false/\∃vs,KV kvs vs/\h.DictOf (cI P w) a vs
 | .dT kvs=>kvs.length<=sizeLine/\(a==sysModules)=false/\∃xs:List (List c8×Addr×Value),
   Paired (fun(p:List c8×V) (q:List c8×Addr×Value)=>p.1=q.1/\H q.2.1=some (.tup (p.1.map kV))/\bi p.2 q.2.2) kvs xs /\
   ∃o es ep,h.get? a=some o/\o.ExactDict/\o.data=.dict es ep/\es.toList=xs.map (entryOfKey (tupleKind (cI P w)))/\(xs.map (·.1)).Nodup
 | .set S n=>h.SetOf (intKind P w) a S n
 | .ins C dx fs=>H dx=some (.own a)/\fs.length<=1000/\dx≠a/\h.get? a=some (PySem.W.instObj C dx) /\
   ∃mA,h.Ns1 dx mA/\(∀f,kr (fs.lookup f) (mA f))/\PySem.Within mA (fs.map (·.1))
 | .own _=>∃o,h.get? a=some o
 | .xd fs=>∃mA,h.Ns1 a mA/\∀f,kr (fs.lookup f) (mA f)
 | .rng lo hi=>∃t u v,h.get? a=some {cls:=.type "range",data:=.fields #[.int lo t,.int hi u,.int 1 v]}
 | .frz o u=>h.get? a=some o/\bX H h a u
 | .tbl ps=>h.get? a=some {cls:=.none,data:=.fields ps}
 | .met f x=>h.get? a=some (PySem.W.methodObj (.ref f) (.ref x))
 | .ext φ=>φ h/\(∃o,h.get? a=some o)/\∀h1 h2:Heap,φ h1->(∀o,h1.get? a=some o->h2.get? a=some o)->φ h2
def kS(H:Hp)(h:Heap):Prop:=∀a o,H a=some o->bX P w H h a o
end
section
variable {P:Nf}{w:Ni}{H H':Hp}{h h':Heap}{a:Addr}{o:HO}
theorem bX.lt(x:bX P w H h a o):a<h.objs.size:=by
 cases o with
 |lst xs=>obtain⟨_,_,_,_,e⟩:=x;exact MB e
 |tup xs=>obtain⟨_,_,_,p⟩:=x;exact p.lt
 |dK kvs=>obtain⟨_,_,_,_,o,_,_,e,_⟩:=x;exact MB e
 |dT kvs=>obtain⟨_,_,_,_,o,_,_,e,_⟩:=x;exact MB e
 |set S n=>obtain⟨o,_,_,_,e,_⟩:=x;exact MB e
 |ins C dx fs=>obtain⟨_,_,_,e,_⟩:=x;exact MB e
 |own y=>obtain⟨_,e⟩:=x;exact MB e
 |xd fs=>obtain⟨_,⟨_,_,_,e,_⟩,_⟩:=x;exact MB e
 |rng lo hi=>obtain⟨_,_,_,e⟩:=x;exact MB e
 |frz ob u=>obtain⟨e,_⟩:=x;exact MB e
 |tbl ps=>exact MB (show h.get? a=some _ from x)
 |met f y=>exact MB (show h.get? a=some _ from x)
 |ext φ=>obtain⟨_,⟨_,e⟩,_⟩:=x;exact MB e
theorem Paired.mapP{α β:Type}{F G:α->β->Prop}:∀{l₁:List α} {l₂:List β},Paired F l₁ l₂->(∀a b,F a b->G a b)->Paired G l₁ l₂
 |_,_,.nil,_=>.nil
 |_,_,.cons r t,f=>.cons (f _ _ r) (Paired.mapP t f)
theorem bX.stay(x:bX P w H h a o)(k:∀b u,(b=a\/H b=some (.own a))->h.get? b=some u->h'.get? b=some u)
  (ho:∀b,H b=some (.own a)->H' b=some (.own a)) (ht:∀b xs,H b=some (.tup xs)->H' b=some (.tup xs)):bX P w H' h' a o:=by
 induction o with
 |lst xs=>obtain⟨z,m,n,r,e⟩:=x;exact⟨z,m,n,r,k _ _ (.inl rfl) e⟩
 |tup xs=>obtain⟨z,m,r,g,e,c⟩:=x;exact⟨z,m,r,g,k _ _ (.inl rfl) e,c⟩
 |dK kvs=>obtain⟨z,y,vs,r,g,j,l,e,c⟩:=x;exact⟨z,y,vs,r,g,j,l,k _ _ (.inl rfl) e,c⟩
 |dT kvs=>
  obtain⟨z,y,xs,r,g,j,l,e,c⟩:=x;exact⟨z,y,xs,Paired.mapP r λp q z=>⟨z.1,ht _ _ z.2.1,z.2.2⟩,g,j,l,k _ _ (.inl rfl) e,c⟩
 |set S n=>obtain⟨g,j,l,t,e,c⟩:=x;exact⟨g,j,l,t,k _ _ (.inl rfl) e,c⟩
 |ins C dx fs=>
  obtain⟨d,z,ne,e,D,⟨B,j,l,I,c⟩,r⟩:=x;exact⟨ho _ d,z,ne,k _ _ (.inl rfl) e,D,⟨B,j,l,k _ _ (.inr d) I,c⟩,r⟩
 |own y=>obtain⟨g,e⟩:=x;exact⟨g,k _ _ (.inl rfl) e⟩
 |xd fs=>obtain⟨D,⟨B,j,l,e,c⟩,r⟩:=x;exact⟨D,⟨B,j,l,k _ _ (.inl rfl) e,c⟩,r⟩
 |rng lo hi=>obtain⟨t,u,v,e⟩:=x;exact⟨t,u,v,k _ _ (.inl rfl) e⟩
 |frz g u ih=>obtain⟨e,q⟩:=x;exact⟨k _ _ (.inl rfl) e,ih q⟩
 |tbl ps=>
  have e:h.get? a=some {cls:=.none,data:=.fields ps}:=x;show h'.get? a=some {cls:=.none,data:=.fields ps};exact k a _ (.inl rfl) e
 |met f y=>
  have e:h.get? a=some (PySem.W.methodObj (.ref f) (.ref y)):=x;show h'.get? a=some (PySem.W.methodObj (.ref f) (.ref y));exact k a _ (.inl rfl) e
 |ext φ=>obtain⟨p,⟨o,e⟩,G⟩:=x;exact⟨G _ _ p λo q=>k _ _ (.inl rfl) q,⟨o,k _ _ (.inl rfl) e⟩,G⟩
theorem kS.lt(x:kS P w H h)(e:H a=some o):a<h.objs.size:=(x a o e).lt
theorem kS.fresh(x:kS P w H h)(e:h.objs.size<=a):H a=none:=by
 cases q:H a with
 |none=>rfl
 |some u=>exact q0O (Mt (x.lt q) e) (MH _)
theorem kS.kept(x:kS P w H h)(k:∀b u,h.get? b=some u->h'.get? b=some u):kS P w H h':=λa o e=>
 (x a o e).stay (λb u _ q=>k b u q) (λ_ q=>q) λ_ _ q=>q
theorem kS.laid(x:kS P w H h)(k:∀b u,h.get? b=some u->h'.get? b=some u)(hp:h.objs.size<=a)(new:bX P w (aA H a o) h' a o):kS P w (aA H a o) h':=λb u e=>by
 have hn:=x.fresh hp
 by_cases hb:b=a
 ·subst hb;rw[ad]at e;cases e;exact new
 ·rw[ao hb]at e
  exact(x b u e).stay (λc v _ q=>k c v q) (λc q=>by rw[ao (aG q hn)];exact q) λc xs q=>by rw[ao (aG q hn)];exact q
end
def Rd(H:Hp)(a:Addr)(u:HO):Prop:=H a=some u\/∃o,H a=some (.frz o u)
theorem Rd.ok(r:Rd H a u)(x:kS P w H h):bX P w H h a u:=by
 rcases r with r | ⟨o,r⟩
 ·exact x a u r
 ·obtain⟨_,q⟩:=x a _ r
  exact q
def Iv:Option HO->Prop
 |some (.lst _)=>True
 |some (.dK _)=>True
 |some (.dT _)=>True
 |some (.set _ _)=>True
 |some (.ins _ _ _)=>True
 |some (.ext _)=>True
 |_=>False
section
variable {P:Nf}{w:Ni}{H:Hp}{h h':Heap}{x e:Addr}{o':HO}
theorem kS.write(ok:kS P w H h)(mu:Iv (H x))(he:e=x\/H e=some (.own x))(k:∀b u,b≠e->h.get? b=some u->h'.get? b=some u)(heo:∃u,h'.get? e=some u)
  (new:bX P w (aA H x o') h' x o'):kS P w (aA H x o') h':=λb u q=>by
 have nown:∀c y,H c=some (.own y)->c≠x:=λc y r z=>by subst z;rw[r]at mu;exact mu
 have ntup:∀c xs,H c=some (.tup xs)->c≠x:=λc xs r z=>by subst z;rw[r]at mu;exact mu
 by_cases hb:b=x
 ·subst hb;rw[ad]at q;cases q;exact new
 ·rw[ao hb]at q
  by_cases hbe:b=e
  ·have q':H b=some (.own x):=by
    rcases he with z | z
    ·exact q0O (hbe.trans z) hb
    ·rw[hbe];exact z
   rw[q]at q';cases q'
   obtain⟨v,a⟩:=heo;exact⟨v,by rw[hbe];exact a⟩
  ·refine(ok b u q).stay (λc v hc r=>k c v ?_ r) (λc r=>by rw[ao (nown c b r)];exact r) λc xs r=>by rw[ao (ntup c xs r)];exact r
   rcases hc with rfl | hc
   ·exact hbe
   ·rintro rfl
    rcases he with z | z
    ·exact nown c b hc z
    ·rw[hc]at z;cases z;exact hb rfl
end
structure Un(fs ex:Nb)(H H':Hp)(h h':Heap):Prop where
 keep:∀b o,h.get? b=some o->H b=none->b∉fs->b∉ex->h'.get? b=some o
 slot:∀b o,h.get? b=some o->H b=none->b∈fs->b∉ex->∃sl,h'.get? b=some {o with slots:=sl}
 free:∀b o,h.get? b=some o->H b=none->b∉ex->H' b=none
 there:∀b o,h.get? b=some o->b∉ex->∃o',h'.get? b=some o'
 tups:∀b xs,H b=some (.tup xs)->H' b=some (.tup xs)
 frzs:∀b o u,H b=some (.frz o u)->H' b=some (.frz o u)
 tbls:∀b ps,H b=some (.tbl ps)->∃more,H' b=some (.tbl (ps++more))
section
variable {fs fs' ex ex':Nb}{H H1 H2:Hp}{h h1 h2 h':Heap}{a x e:Addr}{o:HO}
theorem Un.any(u:Un fs ex H H1 h h1){b:Addr}{ob:Obj}(q:h.get? b=some ob)(n:H b=none)(hx:b∉ex):∃sl,h1.get? b=some {ob with slots:=sl}:=by
 by_cases a:b∈fs
 ·exact u.slot b ob q n a hx
 ·exact⟨ob.slots,u.keep b ob q n a hx⟩
theorem Un.kept(k:∀b u,h.get? b=some u->h'.get? b=some u):Un fs ex H H h h':=
 ⟨λb ob q _ _ _=>k b ob q,λb ob q _ _ _=>⟨ob.slots,k b ob q⟩,λ_ _ _ n _=>n,λb ob q _=>⟨ob,k b ob q⟩,λ_ _ q=>q,λ_ _ _ q=>q,λ_ ps q=>⟨#[],by rw[q];simp⟩⟩
theorem Un.refl:Un fs ex H H h h:=Un.kept λ_ _ q=>q
theorem Un.laid(k:∀b u,h.get? b=some u->h'.get? b=some u)(hp:h.objs.size<=a)(hn:H a=none):Un fs ex H (aA H a o) h h' where
 keep:=λb u q _ _ _=>k b u q
 slot:=λb u q _ _ _=>⟨u.slots,k b u q⟩
 free:=λb u q n _=>by rw[ao (Mu (Mt (MB q) hp))];exact n
 there:=λb u q _=>⟨u,k b u q⟩
 tups:=λb xs q=>by rw[ao (aG q hn)];exact q
 frzs:=λb u xs q=>by rw[ao (aG q hn)];exact q
 tbls:=λb ps q=>⟨#[],by rw[ao (aG q hn),q];simp⟩
theorem Un.write(mu:Iv (H x))(he:e=x\/H e=some (.own x))(k:∀b u,b≠e->h.get? b=some u->h'.get? b=some u)(heo:∃u,h'.get? e=some u):Un fs ex H (aA H x o) h h':=by
 have g:∀b,H b=none->b≠x:=λb n z=>by subst z;rw[n]at mu;exact mu
 have j:∀b,H b=none->b≠e:=λb n z=>by
  subst z;rcases he with r | r
  ·exact g b n r
  ·rw[n]at r;cases r
 have c:∀b u,H b=some u->¬ Iv (some u)->b≠x:=λb u q m z=>by subst z;rw[q]at mu;exact m mu
 refine⟨λb u q n _ _=>k b u (j b n) q,λb u q n _ _=>⟨u.slots,k b u (j b n) q⟩,λb u q n _=>by rw[ao (g b n)];exact n,λb u q _=>?_,
  λb l q=>by rw[ao (c b _ q λz=>z)];exact q,λb u l q=>by rw[ao (c b _ q λz=>z)];exact q,λb ps q=>⟨#[],by rw[ao (c b _ q λz=>z),q];simp⟩⟩
 by_cases a:b=e
 ·subst a;exact heo
 ·exact⟨u,k b u a q⟩
end
def IQ(h:Heap)(H:Hp):List Addr:=(List.range h.objs.size).filter λa=>(H a).isSome
def vY(h:Heap)(H:Hp):Heap:=PySem.W.hideAll h (IQ h H)
theorem Bi(h:Heap)(H:Hp):(vY h H).objs.size=h.objs.size:=PySem.W.hideAll_size _ _
theorem Ew{h:Heap}{H:Hp}{b:Addr}{o:Obj}(e:h.get? b=some o)(n:H b=none):(vY h H).get? b=some o:=
 PySem.W.hideAll_get _ e λhm=>by
  have q:(H b).isSome=true:=(List.mem_filter.mp hm).2;rw[n]at q;simp at q
theorem Gp{b:Addr}{o:Obj}(e:(vY h H).get? b=some o):h.get? b=some o/\H b=none:=by
 have a:h.get? b=some o:=PySem.W.of_hideAll (IQ h H) e;refine⟨a,?_⟩;cases q:H b with
 |none=>rfl
 |some x=>
  have c:b∈IQ h H:=List.mem_filter.mpr ⟨List.mem_range.mpr (MB a),by simp[q]⟩;have z:(vY h H).get? b=none:=PySem.W.hideAll_none (IQ h H) c;rw[z]at e;cases e
def Ff(g h:Heap)(L:Addr):List (Addr×Obj):=(List.range h.objs.size).filterMap λa=>if a=L\/(g.get? a).isSome=true then none else(h.get? a).map λo=>(a,o)
def b5(g h:Heap)(L d:Addr):List (Addr×Obj):=(Ff g h L).filter λp=>decide (p.1≠d)
structure Mod(K:M6)(mg:Nc)(base:Heap):Prop where
 kin:K.In base
 glob:base.Ns mainGlobals mg
 blt:∃mb,base.Ns builtinsNs mb/\∀x:Str,x≠"__name__"->mb x=bootBuiltins x
 nolimit:base.NoLimit
structure Cx where
 prog:Program
 w:World
 K:PySem.W.Frag
 mg:Str->Option Value
 base:Heap
 A:Around
 N:List Str
 s₀:Shared
 H₀:Hp
 env:Env
 outer:List Env
 stack:List Env
 ex:List Addr
 fn:Str->Bool
 calm:Bool
 pn:List (Addr×Obj)
 xe:Value->Shared->Prop
def nI(l:List Env):List Addr:=l.filterMap (·.frame)
abbrev Cx.fs(X:Cx):List Addr:=nI X.outer
def IN(sc:Scope)(x:Str):Prop:=sc.names.lookup x=some .local\/sc.names.lookup x=some .cell\/sc.names.lookup x=some .free
def Loc(sc:Scope)(x:Str):Prop:=sc.names.lookup x=some .local\/sc.names.lookup x=some .cell
def Ju(env:Env)(h:Heap)(m:Nc)(x:Str)(u:Value):Prop:=
 (env.kindOf x=some .local/\m x=some u)\/((env.kindOf x=some .cell\/env.kindOf x=some .free)/\∃c,env.cells.lookup x=some c/\h.IsCell c (some u))
structure Cx.Ok(X:Cx):Prop where
 mod:Mod X.K X.mg X.base
 kind:X.env.scope.kind=.function
 glob:X.env.globals=mainGlobals
 blt:X.env.builtins=builtinsNs
 above:X.s₀.heap.objs.size<=X.env.locals
 inj:∀x y c,X.env.cells.lookup x=some c->X.env.cells.lookup y=some c->x=y
 has:∀x,(X.env.kindOf x=some .cell\/X.env.kindOf x=some .free)->∃c,X.env.cells.lookup x=some c
 cab:∀x c,X.fn x=true->X.env.cells.lookup x=some c->X.s₀.heap.objs.size<=c
 hd:X.calm=true->X.A.handled=none
 frames:X.A.frames=some X.stack
 stk:X.stack=X.outer\/(X.stack=X.env::X.outer/\X.env.frame=some X.env.locals)
 exf:∀b∈X.ex,b≠X.env.locals/\∀x c,X.env.cells.lookup x=some c->c≠b
 bs:∀b o,X.base.get? b=some o->X.s₀.heap.get? b=some o/\X.H₀ b=none
 bsz:X.base.objs.size<=X.s₀.heap.objs.size
 noex:∀b o,X.base.get? b=some o->b∉X.ex
 exfs:∀b∈X.ex,b∉X.fs
 funs:X.s₀.heap.FunFrames X.base X.outer
 frf:∀b∈X.fs,X.H₀ b=none
structure Inv(X:Cx)(pins:M7)(σ:List (Option V))(H:Hp)(s:M9):Prop where
 ok:X.Ok
 os:s.os=X.s₀.os
 bare:AllBare s.gens
 base:Un X.fs X.ex X.H₀ H X.s₀.heap s.heap
 loc:∃m,s.heap.Ns X.env.locals m/\∀(i:Nat) (x:Str) (v:V),X.N[i]?=some x->σ[i]?=some (some v)->IN X.env.scope x->∃u,bi v u/\Ju X.env s.heap m x u
 cell:∀x c,X.env.cells.lookup x=some c->∃v,s.heap.IsCell c v
 free:H X.env.locals=none
 freeC:∀x c,X.env.cells.lookup x=some c->H c=none
 pin:∀p∈X.pn++pins,s.heap.get? p.1=some p.2/\H p.1=none/\p.1≠X.env.locals/\p.1∉X.fs/\∀v,p.2.data≠.cell v
 hok:kS X.prog X.w H s.heap
 len:σ.length=X.N.length
section
variable {X:Cx}{pins:M7}{σ:List (Option V)}{H H':Hp}{s:M9}{h':Heap}
theorem Cx.Ok.nofr(ok:X.Ok){b:Addr}{o:Obj}(e:X.base.get? b=some o):b∉X.fs:=λhb=>by
 have:=(ok.funs.mem hb).1;rw[e]at this;cases this
theorem Inv.bs(I:Inv X pins σ H s):∀b o,X.base.get? b=some o->s.heap.get? b=some o/\H b=none:=λb o e=>
 ⟨I.base.keep b o (I.ok.bs b o e).1 (I.ok.bs b o e).2 (I.ok.nofr e) (I.ok.noex b o e),I.base.free b o (I.ok.bs b o e).1 (I.ok.bs b o e).2 (I.ok.noex b o e)⟩
theorem Inv.bk(I:Inv X pins σ H s):∀b o,X.base.get? b=some o->s.heap.get? b=some o:=λb o e=>(I.bs b o e).1
theorem Inv.mod(I:Inv X pins σ H s):Mod X.K X.mg X.base:=I.ok.mod
theorem Inv.kIn(I:Inv X pins σ H s):X.K.In s.heap:=I.ok.mod.kin.keeps I.bk
theorem Inv.lt(I:Inv X pins σ H s):X.env.locals<s.heap.objs.size:=let ⟨_,hn,_⟩:=I.loc;hn.lt
theorem Inv.sz(I:Inv X pins σ H s):X.s₀.heap.objs.size<=s.heap.objs.size:=MG I.ok.above (q0N I.lt)
theorem Inv.nofs(I:Inv X pins σ H s){a:Addr}(h:s.heap.objs.size<=a):a∉X.fs:=λhb=>by
 obtain⟨_,o,ho,_⟩:=I.ok.funs.mem hb;exact q0O (Mt (MB ho) (MG I.sz h)) (MH _)
theorem Inv.cne(I:Inv X pins σ H s):∀x c,X.env.cells.lookup x=some c->c≠X.env.locals:=λx c e z=>by
 obtain⟨v,o,ho,hd⟩:=I.cell x c e;obtain⟨m,⟨o',es,ep,ho',hd',_⟩,_⟩:=I.loc;rw[z,ho']at ho;cases ho;rw[hd']at hd;cases hd
theorem Inv.funs(I:Inv X pins σ H s):s.heap.FunFrames X.base X.outer:=by
 have all:∀(l:List Env),(∀b∈nI l,b∈X.fs)->X.s₀.heap.FunFrames X.base l->s.heap.FunFrames X.base l:=by
  intro l
  induction l with
  |nil=>intro _ _;trivial
  |cons env r ih=>
   intro j n;obtain⟨p,⟨L,o,a,m,k,q⟩,hr⟩:=n;have g:L∈X.fs:=j L (by unfold nI;rw[q0R,a];exact q0B);obtain⟨sl,e⟩:=I.base.slot L o k (I.ok.frf L g) g λz=>I.ok.exfs L z g;exact⟨p,⟨L,_,a,m,e,q⟩,ih (λb c=>j b (by unfold nI;rw[q0R,a];exact Mr _ c)) hr⟩
 exact all X.outer (λ_ c=>c) I.ok.funs
theorem Inv.stack(I:Inv X pins σ H s):s.heap.FunFrames X.base X.stack:=by
 rcases I.ok.stk with e | ⟨e,b⟩
 ·rw[e];exact I.funs
 ·rw[e]
  obtain⟨m,a,_⟩:=I.loc;refine .cons (by rw[I.ok.kind];decide) b a ?_ I.funs;exact Heap.get?_none_of_le (MG I.ok.bsz I.ok.above)
theorem Inv.stkSub(I:Inv X pins σ H s):∀b∈nI X.stack,b∈X.env.locals::X.fs:=λb hb=>by
 rcases I.ok.stk with e | ⟨e,hf⟩
 ·rw[e]at hb;exact Mr _ hb
 ·rw[e]at hb
  unfold nI at hb;rw[q0R,hf]at hb;exact hb
theorem Inv.stkFree(I:Inv X pins σ H s):∀b∈nI X.stack,H b=none:=λb hb=>by
 rcases Mq.mp (I.stkSub b hb) with e | hb
 ·rw[e];exact I.free
 ·obtain⟨_,o,ho,_⟩:=I.ok.funs.mem hb
  exact I.base.free b o ho (I.ok.frf b hb) λz=>I.ok.exfs b z hb
theorem Inv.step{t':Nat}{d':Drawn}{ch:Nb}(I:Inv X pins σ H s)
  (hch:∀b∈ch,(b∈X.ex\/X.s₀.heap.objs.size<=b)/\b≠X.env.locals/\(∀x c,X.env.cells.lookup x=some c->c≠b)/\∀p∈X.pn++pins,p.1≠b)
  (keep:∀b o,b≠X.env.locals->b∉X.fs->b∉ch->s.heap.get? b=some o->H b=none->h'.get? b=some o)
  (slot:∀b o,b≠X.env.locals->b∈X.fs->b∉ch->s.heap.get? b=some o->H b=none->∃sl,h'.get? b=some {o with slots:=sl}) (free:∀b o,b∉ch->s.heap.get? b=some o->H b=none->H' b=none)
  (there:∀b o,b∉ch->s.heap.get? b=some o->∃o',h'.get? b=some o')
  (tups:∀b xs,H b=some (.tup xs)->H' b=some (.tup xs)) (frzs:∀b o u,H b=some (.frz o u)->H' b=some (.frz o u)) (tbls:∀b ps,H b=some (.tbl ps)->∃more,H' b=some (.tbl (ps++more)))
  (ns:∀m,s.heap.Ns X.env.locals m->h'.Ns X.env.locals m) (hok:kS X.prog X.w H' h') (hg:AllBare g') :
  Inv X pins σ H' {s with heap:=h',gens:=g',drawn:=d',toks:=t' }:=by
 have D:∀b o,X.s₀.heap.get? b=some o->b≠X.env.locals:=λb o e=>Mu (Mt (MB e) I.ok.above);have w:∀b o,X.s₀.heap.get? b=some o->b∉X.ex->b∉ch:=λb o e a B=>by
  rcases(hch b B).1 with z | z
  ·exact a z
  ·exact q0O (Mt (MB e) z) (MH _)
 have j:∀x c,X.env.cells.lookup x=some c->∀v,s.heap.IsCell c v->h'.IsCell c v:=λx c e v ⟨o,C,L⟩=>by
  have g:c∉ch:=λz=>(hch c z).2.2.1 x c e rfl
  by_cases R:c∈X.fs
  ·obtain⟨sl,q⟩:=slot c o (I.cne x c e) R g C (I.freeC x c e)
   exact⟨_,q,L⟩
  ·exact⟨o,keep c o (I.cne x c e) R g C (I.freeC x c e),L⟩
 refine⟨I.ok,I.os,hg,⟨λb o e n B a=>?_,λb o e n B a=>?_,λb o e n a=>?_,λb o e a=>?_,λb xs e=>tups b xs (I.base.tups b xs e),λb o xs e=>frzs b o xs (I.base.frzs b o xs e),λb ps e=>?_⟩,?_,λx c e=>?_,?_,λx c e=>?_,λp O=>?_,hok,I.len⟩
 ·exact keep b o (D b o e) B (w b o e a) (I.base.keep b o e n B a) (I.base.free b o e n a)
 ·obtain⟨sl,y⟩:=I.base.slot b o e n B a
  obtain⟨J,G⟩:=slot b _ (D b o e) B (w b o e a) y (I.base.free b o e n a);exact⟨J,G⟩
 ·obtain⟨o',y⟩:=I.base.there b o e a
  exact free b o' (w b o e a) y (I.base.free b o e n a)
 ·obtain⟨o',y⟩:=I.base.there b o e a
  exact there b o' (w b o e a) y
 ·obtain⟨m1,y⟩:=I.base.tbls b ps e
  obtain⟨S,G⟩:=tbls b _ y;exact⟨m1++S,by rw[G,Array.append_assoc]⟩
 ·obtain⟨m,T,U⟩:=I.loc
  refine⟨m,ns m T,λi x v y G Y=>?_⟩;obtain⟨u,r,l⟩:=U i x v y G Y;refine⟨u,r,?_⟩;rcases l with l | ⟨k,c,e,z⟩
  ·exact .inl l
  ·exact .inr ⟨k,c,e,j x c e _ z⟩
 ·obtain⟨v,z⟩:=I.cell x c e
  exact⟨v,j x c e v z⟩
 ·obtain⟨m,⟨o,_,_,C,_⟩,_⟩:=I.loc
  exact free _ o (λz=>(hch _ z).2.1 rfl) C I.free
 ·obtain⟨v,o,C,L⟩:=I.cell x c e
  exact free c o (λz=>(hch c z).2.2.1 x c e rfl) C (I.freeC x c e)
 ·obtain⟨e,n,ne,M,d⟩:=I.pin p O
  have g:p.1∉ch:=λz=>(hch p.1 z).2.2.2 p O rfl;exact⟨keep p.1 p.2 ne M g e n,free p.1 p.2 g e n,ne,M,d⟩
theorem Inv.un{t':Nat}(I:Inv X pins σ H s)(u:Un X.fs [] H H' s.heap h')(hok:kS X.prog X.w H' h'):Inv X pins σ H' {s with heap:=h',toks:=t' }:=by
 obtain⟨m,⟨o,es,ep,k,r⟩,_⟩:=id I.loc;obtain⟨sl,q⟩:=u.any k I.free (by simp);exact I.step (g':=s.gens) (d':=s.drawn) (ch:=[]) (λ_ z=>nomatch z) (λb o _ c _ e n=>u.keep b o e n c (by simp)) (λb o _ c _ e n=>u.slot b o e n c (by simp)) (λb o _ e n=>u.free b o e n (by simp)) (λb o _ e=>u.there b o e (by simp)) u.tups u.frzs u.tbls (λm' p=>by
  obtain⟨o',g,j,a,l⟩:=p;rw[k]at a;cases a
  exact⟨_,g,j,q,l⟩) hok I.bare
theorem Inv.call{t':Nat}{d':Drawn}{ch:Nb}(I:Inv X pins σ H s)(u:Un (nI X.stack) ch H H' s.heap h')(hok:kS X.prog X.w H' h')(hg:AllBare g')
  (hch:∀b∈ch,(b∈X.ex\/X.s₀.heap.objs.size<=b)/\b≠X.env.locals/\(∀x c,X.env.cells.lookup x=some c->c≠b)/\∀p∈X.pn++pins,p.1≠b) :
  Inv X pins σ H' {s with heap:=h',gens:=g',drawn:=d',toks:=t' }:=by
 obtain⟨m,⟨o,es,ep,q,r⟩,_⟩:=id I.loc;obtain⟨sl,j⟩:=u.any q I.free λz=>(hch _ z).2.1 rfl;exact I.step (ch:=ch) hch (λb o j y a e n=>u.keep b o e n (λz=>(Mq.mp (I.stkSub b z)).elim j y) a) (λb o _ _ a e n=>u.any e n a) (λb o a e n=>u.free b o e n a) (λb o a e=>u.there b o e a) u.tups u.frzs u.tbls (λm' w=>by
  obtain⟨o',k,l,g,v⟩:=w;rw[q]at g;cases g
  exact⟨_,k,l,j,v⟩) hok hg
theorem Inv.turned{t':Nat}{it:Addr}(I:Inv X pins σ H s)(k:∀b o,b≠it->s.heap.get? b=some o->h'.get? b=some o)(hn:H it=none)(hL:it≠X.env.locals)
  (h1:it∈X.ex\/X.s₀.heap.objs.size<=it) (h2:∀x c,X.env.cells.lookup x=some c->c≠it) (h3:∀p∈X.pn++pins,p.1≠it):Inv X pins σ H {s with heap:=h',toks:=t' }:=by
 have g:∀b u,H b=some u->b≠it:=λb u e z=>by rw[z,hn]at e;cases e
 refine I.step (g':=s.gens) (d':=s.drawn) (ch:=[it]) (λb w=>?_) (λb o _ _ a e _=>k b o (λz=>a (by simp[z])) e) (λb o _ _ a e _=>⟨o.slots,k b o (λz=>a (by simp[z])) e⟩) (λ_ _ _ _ n=>n)
  (λb o a e=>⟨o,k b o (λz=>a (by simp[z])) e⟩) (λ_ _ e=>e) (λ_ _ _ e=>e) (λb ps e=>⟨#[],by rw[e];simp⟩) (λm l=>?_) (λb u e=>?_) I.bare
 ·have e:b=it:=by simpa using w
  subst e;exact⟨h1,hL,h2,h3⟩
 ·obtain⟨o,y,B,j,r⟩:=l
  exact⟨o,y,B,k _ o (Ne.symm hL) j,r⟩
 ·refine(I.hok b u e).stay (λc v a q=>k c v ?_ q) (λ_ q=>q) λ_ _ q=>q
  rcases a with z | z
  ·rw[z];exact g b u e
  ·exact g c _ z
theorem Inv.tok(I:Inv X pins σ H s)(t:Nat):Inv X pins σ H {s with toks:=t}:=I.un (h':=s.heap) (t':=t) Un.refl I.hok
theorem Inv.kept{t':Nat}(I:Inv X pins σ H s)(k:∀b u,s.heap.get? b=some u->h'.get? b=some u):Inv X pins σ H {s with heap:=h',toks:=t' }:=I.un (Un.kept k) (I.hok.kept k)
theorem Inv.laid{a:Addr}{t':Nat}(I:Inv X pins σ H s)(k:∀b u,s.heap.get? b=some u->h'.get? b=some u)(hp:s.heap.objs.size<=a)(new:bX X.prog X.w (aA H a o) h' a o) :
  Inv X pins σ (aA H a o) {s with heap:=h',toks:=t' }:=I.un (Un.laid k hp (I.hok.fresh hp)) (I.hok.laid k hp new)
theorem Inv.write{e:Addr}{t':Nat}(I:Inv X pins σ H s)(mu:Iv (H x))(he:e=x\/H e=some (.own x))(k:∀b u,b≠e->s.heap.get? b=some u->h'.get? b=some u)(heo:∃u,h'.get? e=some u)
  (new:bX X.prog X.w (aA H x o) h' x o):Inv X pins σ (aA H x o) {s with heap:=h',toks:=t' }:=I.un (Un.write mu he k heo) (I.hok.write mu he k heo new)
theorem Inv.pins_of{pins':M7}(I:Inv X pins σ H s)(h:∀p∈pins',s.heap.get? p.1=some p.2/\H p.1=none/\p.1≠X.env.locals/\p.1∉X.fs/\∀v,p.2.data≠.cell v):Inv X pins' σ H s:=
 ⟨I.ok,I.os,I.bare,I.base,I.loc,I.cell,I.free,I.freeC,λp hp=>(Mo.mp hp).elim (λz=>I.pin p (q0D _ z)) (h p),I.hok,I.len⟩
theorem wX{N:Ng}(hN:N.Nodup){i j:Nat}{x:Str}(a:N[i]?=some x)(b:N[j]?=some x):i=j:=by
 obtain⟨h1,e⟩:=L'.mp a;obtain⟨h2,c⟩:=L'.mp b;exact(List.getElem_inj hN).mp (e.trans c.symm)
theorem tz{i:Nat}{x:Str}{Q:Unit->Shared->Prop}(I:Inv X pins σ H s)(hN:X.N.Nodup)(hi:X.N[i]?=some x)(hx:Loc X.env.scope x)(r:bi v u)
  (h:∀s',Inv X pins (σ.set i (some v)) H s'->(∃a,Heap.SameBut a s.heap s'.heap/\(a=X.env.locals\/X.env.cells.lookup x=some a))->Q () s') (hf:autoParam t⁻¹ zz3._auto_1):wpAny M A (storeName X.env x u) Q E s:=by
 obtain⟨m,hn,hl⟩:=id I.loc;have U:(X.env.scope.kind==.class||(X.env.scope.kind==.module&&X.env.locals != X.env.globals))=false:=by rw[I.ok.kind];rfl
 have T:i<σ.length:=by rw[I.len];exact(L'.mp hi).1
 have cne:=I.cne;have l:∀{a:Addr} {O:Heap},(∃o,s.heap.get? a=some o/\H a=none)->Heap.SameBut a s.heap O->kS X.prog X.w H O:=fun{a O} ha g b ob e=>by
  obtain⟨_,_,C⟩:=ha;refine(I.hok b ob e).stay (λc w' hc q=>(g.2 c ?_).trans q) (λ_ q=>q) λ_ _ q=>q;rintro rfl;rcases hc with rfl | hc
  ·rw[C]at e;cases e
  ·rw[C]at hc;cases hc
 rcases hx with hk | hk
 ·refine wpAny_storeName_local hk hn (λO a1 g=>?_) U
  obtain⟨oL,_,_,a0,_⟩:=id hn;refine h _ ⟨I.ok,I.os,I.bare,⟨λb o e n L hx=>?_,λb o e n L hx=>?_,I.base.free,λb o e hx=>?_,I.base.tups,I.base.frzs,I.base.tbls⟩,⟨_,a1,λj y v' B D e3=>?_⟩,λy c e=>?_,I.free,I.freeC,λp hp=>?_,l ⟨oL,a0,I.free⟩ g,by simpa using I.len⟩ ⟨_,g,.inl rfl⟩
  ·exact(g.2 b (Mu (Mt (MB e) I.ok.above))).trans (I.base.keep b o e n L hx)
  ·obtain⟨sl,B⟩:=I.base.slot b o e n L hx
   exact⟨sl,(g.2 b (Mu (Mt (MB e) I.ok.above))).trans B⟩
  ·obtain⟨o',B⟩:=I.base.there b o e hx
   exact⟨o',(g.2 b (Mu (Mt (MB e) I.ok.above))).trans B⟩
  ·by_cases G:j=i
   ·subst G
    rw[hi]at B;cases B
    rw[ML T]at D;cases D;exact⟨u,r,.inl ⟨hk,by simp⟩⟩
   ·rw[List.getElem?_set_ne (Ne.symm G)]at D
    obtain⟨u',r',q⟩:=hl j y v' B D e3;refine⟨u',r',?_⟩;rcases q with⟨k,e⟩ | ⟨k,c,e,z⟩
    ·refine .inl ⟨k,?_⟩
     have:y≠x:=λe=>G (wX hN B (e▸hi));simp[this,e]
    ·exact .inr ⟨k,c,e,z.sameBut g (cne y c e)⟩
  ·obtain⟨w',z⟩:=I.cell y c e
   exact⟨w',z.sameBut g (cne y c e)⟩
  ·obtain⟨e,n,ne,nf,d⟩:=I.pin p hp
   exact⟨(g.2 p.1 ne).trans e,n,ne,nf,d⟩
 ·have J:X.fn x=true:=by
   rcases hf with z | z
   ·exact z
   ·rw[z]at hk;cases hk
  obtain⟨c,hc⟩:=I.ok.has x (.inl hk);obtain⟨w',z⟩:=I.cell x c hc;refine wpAny_storeName_cell I.ok.kind hk hc z (λO Z g=>?_);obtain⟨oc,S,R⟩:=id z;refine h {s with heap:=O } ⟨I.ok,I.os,I.bare,⟨λb o e n L hx=>?_,λb o e n L hx=>?_,I.base.free,λb o e hx=>?_,I.base.tups,I.base.frzs,I.base.tbls⟩,⟨m,hn.sameBut g (Ne.symm (cne x c hc)),λj y v' B D e3=>?_⟩,λy c' e=>?_,I.free,I.freeC,λp hp=>?_,l ⟨oc,S,I.freeC x c hc⟩ g,by simpa using I.len⟩ ⟨c,g,.inr hc⟩
  ·exact(g.2 b (Mu (Mt (MB e) (I.ok.cab x c J hc)))).trans (I.base.keep b o e n L hx)
  ·obtain⟨sl,B⟩:=I.base.slot b o e n L hx
   exact⟨sl,(g.2 b (Mu (Mt (MB e) (I.ok.cab x c J hc)))).trans B⟩
  ·obtain⟨o',B⟩:=I.base.there b o e hx
   exact⟨o',(g.2 b (Mu (Mt (MB e) (I.ok.cab x c J hc)))).trans B⟩
  ·by_cases G:j=i
   ·subst G
    rw[hi]at B;cases B
    rw[ML T]at D;cases D;exact⟨u,r,.inr ⟨.inl hk,c,hc,Z⟩⟩
   ·rw[List.getElem?_set_ne (Ne.symm G)]at D
    obtain⟨u',r',q⟩:=hl j y v' B D e3;refine⟨u',r',?_⟩;rcases q with q | ⟨k,c',e,z'⟩
    ·exact .inl q
    ·refine .inr ⟨k,c',e,z'.sameBut g ?_⟩
     rintro rfl;exact G (wX hN B (I.ok.inj _ _ _ e hc▸hi))
  ·by_cases Y:c'=c
   ·subst Y;exact⟨_,Z⟩
   ·obtain⟨w2,z2⟩:=I.cell y c' e
    exact⟨w2,z2.sameBut g Y⟩
  ·obtain⟨e,n,ne,nf,d⟩:=I.pin p hp
   refine⟨(g.2 p.1 ?_).trans e,n,ne,nf,d⟩;intro q;rw[q,S]at e;have q':oc=p.2:=q0Q e;exact d w' (by rw[<- q'];exact R)
theorem wR{i:Nat}{x:Str}{Q:Unit->Shared->Prop}(I:Inv X pins σ H s)(hN:X.N.Nodup)(hi:X.N[i]?=some x)(hx:Loc X.env.scope x)(r:bi v u)
  (h:∀s',Inv X pins (σ.set i (some v)) H s'->Q () s') (hf:autoParam t⁻¹ zz3._auto_1):wpAny M A (storeName X.env x u) Q E s:=
 tz I hN hi hx r (λs' I' _=>h s' I') hf
theorem Inv.call'{s':M9}{ch:Nb}(I:Inv X pins σ H s)(ho:s'.os=s.os)(u:Un (nI X.stack) ch H H' s.heap s'.heap)(hok:kS X.prog X.w H' s'.heap)(hg:AllBare s'.gens)
  (hch:∀b∈ch,(b∈X.ex\/X.s₀.heap.objs.size<=b)/\b≠X.env.locals/\(∀x c,X.env.cells.lookup x=some c->c≠b)/\∀p∈X.pn++pins,p.1≠b):Inv X pins σ H' s':=by
 obtain⟨h',g',d',t',a⟩:=s';have e:a=s.os:=ho;subst e;exact I.call (g':=g') (t':=t') (d':=d') u hok hg hch
end
abbrev XK:=Value->Option Addr->Hp->Prop
abbrev St:=List (Option V)
abbrev VK:=V->Hp->Prop
abbrev TE:=St->Hp->VK->Prop
abbrev TT:=St->Hp->(Bool->Hp->Prop)->Prop
abbrev TA:=St->Hp->(List V->Hp->Prop)->Prop
structure iO where
 nx:St->Hp->Prop
 rt:VK
 bk:St->Hp->Prop:=λ_ _=>False
 ct:St->Hp->Prop:=λ_ _=>False
abbrev TS:=iO->St->Hp->Prop
inductive EP(X:Cx)(pins:M7)(σ:St)(Q:VK)(u:Value)(s':M9):Prop
 |mk (v:V) (H':Hp) (_:Inv X pins σ H' s') (_:bi v u) (_:Q v H')
inductive TP(X:Cx)(pins:M7)(σ:St)(Q:Bool->Hp->Prop)(b:Bool)(s':M9):Prop
 |mk (H':Hp) (_:Inv X pins σ H' s') (_:Q b H')
inductive AP(X:Cx)(pins:M7)(σ:St)(Q:List V->Hp->Prop)(us:Na)(s':M9):Prop
 |mk (vs:List V) (H':Hp) (_:Inv X pins σ H' s') (_:bd vs us) (_:Q vs H')
inductive SN(X:Cx)(pins:M7)(D:St->Hp->Prop)(s':M9):Prop
 |mk (σ':St) (H':Hp) (_:Inv X pins σ' H' s') (_:D σ' H')
inductive SR(X:Cx)(pins:M7)(D:V->Hp->Prop)(u:Value)(s':M9):Prop
 |mk (v:V) (σ':St) (H':Hp) (_:Inv X pins σ' H' s') (_:bi v u) (_:D v H')
def SP(X:Cx)(pins:M7)(D:iO)(f:Flow)(s':M9):Prop:=
 match f with
 | .next=>SN X pins D.nx s'
 | .brk=>SN X pins D.bk s'
 | .cont=>SN X pins D.ct s'
 | .ret u=>SR X pins D.rt u s'
def PE(X:Cx)(e:Expr)(t:TE):Prop:=
 ∀(pins:M7) (s:M9) (σ:St) (H:Hp) (Q:VK),Inv X pins σ H s->t σ H Q->wpAny c⁻¹ X.A (eval e X.env) (EP X pins σ Q) X.xe s
def PT(X:Cx)(e:Expr)(t:TT):Prop:=
 ∀(pins:M7) (s:M9) (σ:St) (H:Hp) (Q:Bool->Hp->Prop),Inv X pins σ H s->t σ H Q->wpAny c⁻¹ X.A (isTrue e X.env (eval e X.env)) (TP X pins σ Q) X.xe s
def PW(X:Cx)(e:Expr)(t:TT):Prop:=
 ∀(whole:Sem Value) (pins:M7) (s:M9) (σ:St) (H:Hp) (Q:Bool->Hp->Prop),Inv X pins σ H s->t σ H Q->wpAny c⁻¹ X.A (isTrue e X.env whole) (TP X pins σ Q) X.xe s
theorem PW.pt{t:TT}(h:PW X e t):PT X e t:=h _
def PA(X:Cx)(es:Nk)(t:TA):Prop:=
 ∀(pos:Pos) (pins:M7) (s:M9) (σ:St) (H:Hp) (Q:List V->Hp->Prop),Inv X pins σ H s->t σ H Q->wpAny c⁻¹ X.A (spliced (backTo pos (starEach es X.env))) (AP X pins σ Q) X.xe s
def PS(X:Cx)(st:Stmt)(t:TS):Prop:=
 ∀(pins:M7) (s:M9) (σ:St) (H:Hp) (D:iO),Inv X pins σ H s->t D σ H->wpAny c⁻¹ X.A (exec st X.env) (SP X pins D) X.xe s
def wz(X:Cx)(st:List Stmt)(t:TS):Prop:=
 ∀(pins:M7) (s:M9) (σ:St) (H:Hp) (D:iO),Inv X pins σ H s->t D σ H->wpAny c⁻¹ X.A (execs st X.env) (SP X pins D) X.xe s
theorem bV{α:Type}{t:Sem α}{Q Q':α->Shared->Prop}{s:M9}(h:wpAny M A t Q E s)(hQ:∀a s,Q a s->Q' a s):wpAny M A t Q' E s:=q0T h hQ λ_ _ x=>x
section
variable {X:Cx}
def CI(i:Nat):TE:=λσ H Q=>∃v,σ[i]?=some (some v)/\Q v H
def tC(v:V):TE:=λ_ H Q=>Q v H
theorem GP{i:Nat}{x:Str}{pos:Pos}(hN:X.N[i]?=some x)(hv:IN X.env.scope x)(hd:autoParam j⁻¹ zz1._auto_1)(hcd:autoParam ((x==("__classdict__":Str))=false) zz1._auto_1):PE X (.Name x pos) (CI i):=by
 intro g s σ H Q I h;obtain⟨v,e,h⟩:=h;obtain⟨m,k,o⟩:=I.loc;obtain⟨u,r,l⟩:=o i x v hN e hv;have b:EP X g σ Q u s:=⟨v,H,I,r,h⟩;rcases l with⟨hk,n⟩ | ⟨hk,c,j,a⟩
 ·exact wpAny_Name (wpAny_loadName_local I.ok.kind hk k n b) hd
 ·rcases hk with hk | hk
  ·exact wpAny_Name (wpAny_loadName_cell I.ok.kind hk j a b) hd
  ·exact wpAny_Name (wpAny_loadName_free I.ok.kind hk j a b hcd) hd
theorem ah{i j pos}:PE X (.Constant (.int i) j pos) (tC (.int i)):=λ_ _ _ H _ I h=>wpAny_Constant_int ⟨.int i,H,I.tok _,⟨_,rfl⟩,h⟩
theorem Ar{b j pos}:PE X (.Constant (.bool b) j pos) (tC (.bl b)):=λ_ _ _ H _ I h=>Constant_bool ⟨.bl b,H,I,rfl,h⟩
theorem fY{j pos}:PE X (.Constant .none j pos) (tC .non):=λ_ _ _ H _ I h=>Constant_none ⟨.non,H,I,rfl,h⟩
theorem mr{x j pos}:PE X (.Constant (.str x) j pos) (tC (.str x)):=λ_ _ _ H _ I h=>Calls.Constant_str ⟨.str x,H,I.tok _,⟨_,rfl⟩,h⟩
def Gl(X:Cx)(x:Str):Prop:=X.env.kindOf x=some .globalImplicit
theorem kK{pins:M7}{σ:St}{u:Value}{pos:Pos}{Q:M5}(I:Inv X pins σ H s)(hg:Gl X x)(hm:X.mg x=some u)(h:Q u s)
  (hd:autoParam j⁻¹ zz1._auto_1):wpAny c⁻¹ X.A (eval (.Name x pos) X.env) Q E s:=
 Calls.Name_function_global I.ok.kind hg (Calls.loadGlobal_global (by rw[I.ok.glob];exact I.mod.glob.keeps I.bk) hm h) hd
theorem fG{pins:M7}{σ:St}{u:Value}{pos:Pos}{Q:M5}(I:Inv X pins σ H s)(hg:Gl X x)(hm:X.mg x=none)(hv:bootBuiltins x=some u)(h:Q u s)
  (hn:autoParam (x≠"__name__") zz1._auto_1) (hd:autoParam j⁻¹ zz1._auto_1):wpAny c⁻¹ X.A (eval (.Name x pos) X.env) Q E s:=by
 obtain⟨mb,h1,h2⟩:=I.mod.blt;exact Calls.Name_function_global I.ok.kind hg (Calls.loadGlobal_builtin (by rw[I.ok.glob];exact I.mod.glob.keeps I.bk) hm (by rw[I.ok.blt];exact h1.keeps I.bk) ((h2 x hn).trans hv) h) hd
theorem dX{u:Value}{pos:Pos}(hg:Gl X x)(hm:X.mg x=some u)(r:bi v u)(hd:autoParam j⁻¹ zz1._auto_1):PE X (.Name x pos) (tC v):=
 λ_ _ _ H _ I h=>kK I hg hm ⟨v,H,I,r,h⟩ hd
theorem zZ{u:Value}{pos:Pos}(hg:Gl X x)(hm:X.mg x=none)(hv:bootBuiltins x=some u)(r:bi v u)(hn:autoParam (x≠"__name__") zz1._auto_1)(hd:autoParam j⁻¹ zz1._auto_1):PE X (.Name x pos) (tC v):=
 λ_ _ _ H _ I h=>fG I hg hm hv ⟨v,H,I,r,h⟩ hn hd
variable {a b:Expr}{ta tb:TE}{pos:Pos}
def PC(X:Cx)(op:CmpOp)(a b:Expr)(t:TE):Prop:=
 ∀(pins:M7) (s:M9) (σ:St) (H:Hp) (Q:VK),Inv X pins σ H s->t σ H Q ->
  wpAny c⁻¹ X.A (eval a X.env) (λv s₁=>wpAny c⁻¹ X.A (eval b X.env) (λu s₂=>wpAny c⁻¹ X.A (compareOp op v u) (EP X pins σ Q) X.xe s₂) X.xe s₁) X.xe s
theorem EY(b:Expr){op:CmpOp}(h:op≠.In)(h2:op≠.NotIn):behindInMarks op b=false:=by
 have c:(op==CmpOp.In)=false:=by cases op<;>first | rfl | exact q0O rfl h
 have a:(op==CmpOp.NotIn)=false:=by cases op<;>first | rfl | exact q0O rfl h2
 cases b<;>simp[behindInMarks,c,a]
def tB(t:TE):TT:=λσ H Q=>t σ H λx H1=>∃c,x=.bl c/\Q c H1
theorem EK{op:CmpOp}{t:TE}(h:PC X op a b t)(h1:behindInMarks op b=false:=by first | exact EY _ nofun nofun | rfl):PT X (.Compare a [op] [b] pos) (tB t):=by
 intro e s σ H Q I hw;refine wpAny_isTrue_Compare1 (bV (h e s σ H _ I hw) λv s1 h1=>bV h1 λu s2 h2=>bV h2 λc s3 ⟨x,l,k,g,j⟩=>?_) h1;obtain⟨d,rfl,q⟩:=j;cases g;exact wpAny_truthy_bool ⟨l,k,q⟩
variable {tA tB':TT}{b5:Nk}
def HQ(t u:TT):TT:=λσ H Q=>t σ H λc H1=>if c=true then u σ H1 Q else Q false H1
def Jv(t u:TT):TT:=λσ H Q=>t σ H λc H1=>if c=true then Q true H1 else u σ H1 Q
def Hx(t:TT):TT:=λσ H Q=>t σ H λc H1=>Q (!c) H1
theorem ig(ha:PT X a tA):PW X (.BoolOp .And [a] pos) tA:=by
 intro wh b s σ H Q I h;refine isTrue_and (bV (ha b s σ H Q I h) λc s1 e=>?_);cases c with
 |true=>exact isTrue_and_nil e
 |false=>exact e
theorem iq(ha:PT X a tA):PW X (.BoolOp .Or [a] pos) tA:=by
 intro wh b s σ H Q I h;refine isTrue_or (bV (ha b s σ H Q I h) λc s1 e=>?_);cases c with
 |false=>exact isTrue_or_nil e
 |true=>exact e
theorem iu(ha:PT X a tA)(hb:PW X (.BoolOp .And (b::b5) pos) tB'):PW X (.BoolOp .And (a::b::b5) pos) (HQ tA tB'):=by
 intro l e s σ H Q I h;refine isTrue_and (bV (ha e s σ H _ I h) λc m ⟨k,j,g⟩=>?_);cases c with
 |true=>exact hb l e m σ k Q j g
 |false=>exact⟨k,j,g⟩
theorem lK(ha:PT X a tA)(hb:PW X (.BoolOp .Or (b::b5) pos) tB'):PW X (.BoolOp .Or (a::b::b5) pos) (Jv tA tB'):=by
 intro l e s σ H Q I h;refine isTrue_or (bV (ha e s σ H _ I h) λc m ⟨k,j,g⟩=>?_);cases c with
 |true=>exact⟨k,j,g⟩
 |false=>exact hb l e m σ k Q j g
theorem lY(ha:PT X a tA):PT X (.UnaryOp .Not a pos) (Hx tA):=by
 intro b s σ H Q I h;exact isTrue_not (bV (ha b s σ H (λc e=>Q (!c) e) I h) λ_ _ ⟨e,g,q⟩=>⟨e,g,q⟩)
def Ds(ta tb:TE):TE:=λσ H Q=>ta σ H λx H1=>∃c,x=.bl c/\if c=true then tb σ H1 Q else Q (.bl false) H1
def Ek(ta:TE):TE:=λσ H Q=>ta σ H λx H1=>∃c,x=.bl c/\Q (.bl (!c)) H1
theorem yn{op}{t:TE}(h:PE X a t):PE X (.BoolOp op [a] pos) t:=λpins s σ H Q I hw=>BoolOp_one (h pins s σ H Q I hw)
theorem uF(ha:PE X a ta)(hb:PE X (.BoolOp .And (b::b5) pos) tb):PE X (.BoolOp .And (a::b::b5) pos) (Ds ta tb):=by
 intro e s σ H Q I h;refine BoolOp_and (bV (ha e s σ H _ I h) λv l ⟨x,k,j,m,g⟩=>?_);obtain⟨c,rfl,g⟩:=g;cases m;refine wpAny_truthy_bool ?_;cases c with
 |true=>exact hb e l σ k Q j g
 |false=>exact⟨.bl false,k,j,rfl,g⟩
theorem HN(ha:PE X a ta):PE X (.UnaryOp .Not a pos) (Ek ta):=by
 intro b s σ H Q I h;refine UnaryOp_ (bV (ha b s σ H _ I h) λv s1 ⟨x,k,j,g,e⟩=>?_);obtain⟨c,rfl,e⟩:=e;cases g;exact not_of (wpAny_truthy_bool ⟨.bl (!c),k,j,rfl,e⟩)
def Jj(t:TT)(ta tb:TE):TE:=λσ H Q=>t σ H λc H1=>if c=true then ta σ H1 Q else tb σ H1 Q
theorem rM(hc:PT X c tA)(ha:PE X a ta)(hb:PE X b tb):PE X (.IfExp c a b pos) (Jj tA ta tb):=by
 intro e s σ H Q I h;refine wpAny_IfExp (bV (hc e s σ H _ I h) λd g ⟨l,k,j⟩=>?_);cases d with
 |true=>exact ha e g σ l Q k j
 |false=>exact hb e g σ l Q k j
end
def aO(K:M6)(H:Hp)(a:Addr)(xs:List V):Prop:=
 Rd H a (.lst xs) \/
  ∃(o:Obj) (its:Array Value) (n:Nat),K.lookup a=some o/\o.cls=.type "list"/\o.dict=none/\o.data=.seq its n/\its.size<=sizeLine/\bd xs its.toList
def aS(K:M6)(H:Hp)(a:Addr)(xs:List V):Prop:=
 Rd H a (.tup xs) \/
  ∃(o:Obj) (its:Array Value) (n:Nat),K.lookup a=some o/\o.cls=.type "tuple"/\o.data=.seq its n/\its.size<=sizeLine/\bd xs its.toList
def I_:Value->Option V
 | .none=>some .non
 | .bool b=>some (.bl b)
 | .int i _=>some (.int i)
 | .str x _=>some (.str x)
 | .bytes b _=>some (.byt b)
 | .float b _=>some (.flt b)
 | .ref a=>some (.ref a)
 | .type n=>some (.ty n)
 |_=>none
theorem bi.abs(r:bi x u):I_ u=some x:=by
 cases x with
 |non=>cases r;rfl
 |bl _=>cases r;rfl
 |int _=>obtain⟨t,rfl⟩:=r;rfl
 |str _=>obtain⟨t,rfl⟩:=r;rfl
 |byt _=>obtain⟨t,rfl⟩:=r;rfl
 |flt _=>obtain⟨t,rfl⟩:=r;rfl
 |ref _=>cases r;rfl
 |ty _=>cases r;rfl
theorem bi.inj(r:bi x u)(q:bi y u):x=y:=q0Q (r.abs.symm.trans q.abs)
theorem bd.inj:∀{xs ys:List V} {us:Na},bd xs us->bd ys us->xs=ys
 |_,_,_,.nil,.nil=>rfl
 |_,_,_,.cons r t,.cons r' t'=>by rw[r.inj r',bd.inj t t']
section
variable {X:Cx}{pins:M7}{σ:St}{H:Hp}{s:M9}{a:Addr}{xs ys:List V}
theorem aO.of{K:M6}(h:H a=some (.lst xs)):aO K H a xs:=.inl (.inl h)
theorem aS.of{K:M6}(h:H a=some (.tup xs)):aS K H a xs:=.inl (.inl h)
theorem Inv.list(I:Inv X pins σ H s)(h:aO X.K H a xs):∃its:List Value,bd xs its/\PlainL s.heap a its.toArray/\xs.length<=sizeLine:=by
 rcases h with h | ⟨o,its,n,c,j,g,b,hz,r⟩
 ·obtain⟨z,its,n,r,e⟩:=h.ok I.hok
  exact⟨its,r,⟨_,n,e,rfl,rfl,rfl⟩,z⟩
 ·refine⟨its.toList,r,⟨o,n,I.kIn a o c,j,g,by simpa using b⟩,?_⟩
  have e:=r.length;simp only[Array.length_toList]at e;omega
theorem Inv.tuple(I:Inv X pins σ H s)(h:aS X.K H a xs):∃its:List Value,bd xs its/\IsTup s.heap a its.toArray/\xs.length<=sizeLine:=by
 rcases h with h | ⟨o,its,n,c,g,b,hz,r⟩
 ·obtain⟨z,its,r,p⟩:=h.ok I.hok
  exact⟨its,r,p,z⟩
 ·refine⟨its.toList,r,⟨o,I.kIn a o c,g,n,by simpa using b⟩,?_⟩
  have e:=r.length;simp only[Array.length_toList]at e;omega
theorem Inv.list_inj(I:Inv X pins σ H s)(h:aO X.K H a xs)(h':aO X.K H a ys):xs=ys:=by
 obtain⟨c,r,⟨o,n,e,_,_,d⟩,_⟩:=I.list h;obtain⟨b,k,⟨o',n',g,_,_,j⟩,_⟩:=I.list h';rw[e]at g;cases g
 rw[d]at j
 injection j with d1 _
 have:c=b:=by simpa using q0P Array.toList d1
 subst this;exact r.inj k
theorem Inv.tuple_inj(I:Inv X pins σ H s)(h:aS X.K H a xs)(h':aS X.K H a ys):xs=ys:=by
 obtain⟨c,r,⟨o,e,_,n,d⟩,_⟩:=I.tuple h;obtain⟨b,k,⟨o',g,_,n',j⟩,_⟩:=I.tuple h';rw[e]at g;cases g
 rw[d]at j
 injection j with d1 _
 have:c=b:=by simpa using q0P Array.toList d1
 subst this;exact r.inj k
end
abbrev Cx.wish(X:Cx)(E:M5):Cx:={X with xe:=E}
abbrev Cx.nox(X:Cx):Cx:=X.wish λ_ _=>False
theorem Cx.Ok.wish{X:Cx}(ok:X.Ok)(E:M5):(X.wish E).Ok:=
 ⟨ok.mod,ok.kind,ok.glob,ok.blt,ok.above,ok.inj,ok.has,ok.cab,ok.hd,ok.frames,ok.stk,ok.exf,ok.bs,ok.bsz,ok.noex,ok.exfs,ok.funs,ok.frf⟩
theorem Cx.Ok.unwish{X:Cx}(ok:(X.wish E).Ok):X.Ok:=
 ⟨ok.mod,ok.kind,ok.glob,ok.blt,ok.above,ok.inj,ok.has,ok.cab,ok.hd,ok.frames,ok.stk,ok.exf,ok.bs,ok.bsz,ok.noex,ok.exfs,ok.funs,ok.frf⟩
section
variable {X:Cx}{pins:M7}{σ:St}{H:Hp}{s:M9}{E:M5}
theorem Inv.wish(I:Inv X pins σ H s)(E:M5):Inv (X.wish E) pins σ H s:=⟨I.ok.wish E,I.os,I.bare,I.base,I.loc,I.cell,I.free,I.freeC,I.pin,I.hok,I.len⟩
theorem Inv.unwish(I:Inv (X.wish E) pins σ H s):Inv X pins σ H s:=⟨I.ok.unwish,I.os,I.bare,I.base,I.loc,I.cell,I.free,I.freeC,I.pin,I.hok,I.len⟩
theorem SP.unwish{f:Flow}(h:SP (X.wish E) pins D f s'):SP X pins D f s':=by
 cases f with
 |next=>obtain⟨σ',a,I,q⟩:=h;exact⟨σ',a,I.unwish,q⟩
 |brk=>obtain⟨σ',a,I,q⟩:=h;exact⟨σ',a,I.unwish,q⟩
 |cont=>obtain⟨σ',a,I,q⟩:=h;exact⟨σ',a,I.unwish,q⟩
 |ret u=>obtain⟨v,σ',a,I,r,q⟩:=h;exact⟨v,σ',a,I.unwish,r,q⟩
theorem wz.nox{st:List Stmt}{t:TS}(h:wz X.nox st t):wz X st t:=λpins s σ H D I hw=>
 q0T (h pins s σ H D (I.wish _) hw) (λ_ _ q=>q.unwish) λ_ _ z=>False.elim z
end
section
variable {X:Cx}{st:Stmt}{b5:List Stmt}{t u:TS}{e:Expr}{te:TE}{pos:Pos}
def Ep:TS:=λD σ H=>D.nx σ H
def yi(t u:TS):TS:=λD σ H=>t {D with nx:=u D} σ H
theorem aK:wz X [] Ep:=λ_ _ σ H _ I h=>wpAny_execs_nil ⟨σ,H,I,h⟩
theorem af(h1:PS X st t)(h2:wz X b5 u):wz X (st::b5) (yi t u):=by
 intro a s σ H D I h;refine wpAny_execs_cons (bV (h1 a s σ H {D with nx:=u D} I h) λf b q=>?_);cases f with
 |next=>
  obtain⟨σ',e,c,q⟩:=q;exact h2 a b σ' e D c q
 |ret v=>exact q
 |brk=>exact q
 |cont=>exact q
theorem ai(h1:PS X st t):wz X [st] t:=by
 intro a s σ H D I h;refine wpAny_execs_cons (bV (h1 a s σ H D I h) λf s1 q=>?_);cases f with
 |next=>exact wpAny_execs_nil q
 |ret v=>exact q
 |brk=>exact q
 |cont=>exact q
def y9:TS:=λD σ H=>D.bk σ H
theorem EX:PS X (.Break pos) y9:=λ_ _ σ H _ I h=>wpAny_Break ⟨σ,H,I,h⟩
theorem Inv.quiet{pins:M7}{σ:St}(I:Inv X pins σ H s):interactive X.env=false:=by simp[interactive,I.ok.kind]
def C6(te:TE):TS:=λD σ H=>te σ H λ_ H1=>D.nx σ H1
theorem br(he:PE X e te)(hs:autoParam (swapsWith e none pos.line X.env=pure false) zz0._auto_1):PS X (.Expr e pos) (C6 te):=by
 intro a s σ H D I h;exact wpAny_Expr_any (bV (he a s σ H _ I h) λv s1 ⟨x,g,c,r1,b⟩=>⟨σ,g,c,b⟩) I.quiet hs
def GU(te:TE):TS:=λD σ H=>te σ H D.rt
theorem aF(he:PE X e te):PS X (.Return (some e) pos) (GU te):=by
 intro a s σ H D I h;exact wpAny_Return_some (bV (he a s σ H _ I h) λv s1 ⟨x,j,g,b,c⟩=>⟨x,σ,j,g,b,c⟩)
def DT:TS:=λD _ H=>D.rt .non H
theorem pN:PS X (.Return none pos) DT:=λ_ _ σ H _ I h=>wpAny_Return_none ⟨.non,σ,H,I,rfl,h⟩
def DM(c:TT)(t u:TS):TS:=λD σ H=>c σ H λb H1=>if b=true then t D σ H1 else u D σ H1
theorem bp{tc:TT}(hc:PT X c tc)(ha:wz X a t)(hb:wz X b u):PS X (.If c a b pos) (DM tc t u):=by
 intro e s σ H D I h;refine wpAny_If (bV (hc e s σ H _ I h) λd g ⟨l,k,j⟩=>?_);cases d with
 |true=>exact ha e g σ l D k j
 |false=>exact hb e g σ l D k j
end
abbrev TG:=V->St->Hp->(St->Hp->Prop)->Prop
abbrev GG:=List V->St->Hp->(St->Hp->Prop)->Prop
def PG(X:Cx)(target:Expr)(t:TG):Prop:=
 ∀(pins:M7) (s:M9) (σ:St) (H:Hp) (v:V) (u:Value) (Q:St->Hp->Prop),Inv X pins σ H s->bi v u->t v σ H Q ->
  wpAny c⁻¹ X.A (assign target X.env u) (λ_ s'=>SN X pins Q s') X.xe s
def IF(X:Cx)(ts:Nk)(t:GG):Prop:=
 ∀(pins:M7) (s:M9) (σ:St) (H:Hp) (vs:List V) (us:Na) (Q:St->Hp->Prop),Inv X pins σ H s->bd vs us->t vs σ H Q ->
  wpAny c⁻¹ X.A (assignInOrder ((assignEach ts X.env).map (·.2)) us) (λ_ s'=>SN X pins Q s') X.xe s
section
variable {X:Cx}{pos:Pos}
def lS(i:Nat):TG:=λv σ H Q=>Q (σ.set i (some v)) H
theorem ax{i:Nat}{x:Str}(hN:X.N.Nodup)(hi:X.N[i]?=some x)(hx:Loc X.env.scope x)(hf:autoParam t⁻¹ zz3._auto_1):PG X (.Name x pos) (lS i):=by
 intro pins s σ H v u Q I r h;exact wpAny_assign_Name (wR I hN hi hx r (λs' a=>⟨_,H,a,h⟩) hf)
theorem q02(i:Nat){x:Str}(hN:X.N.Nodup)(hi:autoParam (X.N[i]?=some x) zz0._auto_1)(hx:autoParam (Loc X.env.scope x) zzl._auto_1)(hf:autoParam t⁻¹ zz3._auto_1):PG X (.Name x pos) (lS i):=ax hN hi hx hf
def Fk:GG:=λvs σ H Q=>vs=[]/\Q σ H
def At(t:TG)(u:GG):GG:=λvs σ H Q=>∃v r,vs=v::r/\t v σ H λσ' H'=>u r σ' H' Q
theorem cz:IF X [] Fk:=by
 intro pins s σ H vs us Q I r h;obtain⟨e,h⟩:=h;subst e;cases r;exact assignInOrder_nil ⟨σ,H,I,h⟩
theorem aM{e:Expr}{es:Nk}{t:TG}(h1:PG X e t)(h2:IF X es u)
  (hs:autoParam ((assignEach (e::es) X.env).map (·.2)=assign e X.env::(assignEach es X.env).map (·.2)) zz0._auto_1):IF X (e::es) (At t u):=by
 intro a s σ H vs us Q I r h;obtain⟨v,vr,g,h⟩:=h;subst g;cases r with
 |cons r rr=>
  rw[hs];refine assignInOrder_cons (bV (h1 a s σ H _ _ _ I r h) λ_ b ⟨σ1,k,j,c⟩=>?_);exact h2 a b σ1 k _ _ Q j rr c
def CS(K:M6)(n:Nat)(t:GG):TG:=λv σ H Q=>∃a xs,v=.ref a/\aS K H a xs/\xs.length=n/\t xs σ H Q
theorem fg{es:Nk}{t:GG}{n:Nat}(hc:X.calm=true)(h:IF X es t)
  (hn:autoParam ((assignEach es X.env).length=n) zz0._auto_1) (hst:autoParam ((assignEach es X.env).findIdx? (·.1)=none) zz0._auto_1):PG X (.Tuple es k pos) (CS X.K n t):=by
 intro c s σ H v u Q I r g;obtain⟨a,l,y,q,w,g⟩:=g;subst y;cases r;obtain⟨its,j,p,hz⟩:=I.tuple q;refine assign_Tuple_tuple (I.ok.hd hc) p (by simp[hn,<- w,j.length]) hst λx m=>?_;have B:Inv X c σ H {s with heap:=x }:=I.kept (t':=s.toks) λb o e=>m b o (Mu (MB e)) e;exact h c _ σ H l _ Q B (by simpa using j) g
def zE(te:TE)(g:TG):TS:=λD σ H=>te σ H λx H1=>g x σ H1 D.nx
theorem qV{tg:Expr}{te:TE}(he:PE X e te)(hg:PG X tg g)(hs:autoParam (swapsWithSole [tg] e pos.line X.env=pure false) zz0._auto_1)(hw:autoParam (swappedStores [tg] e X.env=pure none) zz0._auto_1)
  (h1:autoParam ((assignEach [tg] X.env).map (·.2)=[assign tg X.env]) zz0._auto_1):PS X (.Assign [tg] e pos) (zE te g):=by
 intro a s σ H D I h;refine wpAny_Assign_stores (bV (he a s σ H _ I h) λv b ⟨x,l,k,c,j⟩=>?_) hs hw;rw[h1];exact bV (hg a b σ l x v _ k c j) λ_ s2 q=>q
theorem aB{i:Nat}{x:Str}{te:TE}{pos':Pos}(hN:X.N.Nodup)(hi:X.N[i]?=some x)(hx:Loc X.env.scope x)(he:PE X e te)(hs:autoParam (swapsWith e (some (.Name x pos')) pos.line X.env=pure false) zz0._auto_1)(hf:autoParam t⁻¹ zz3._auto_1) :
  PS X (.Assign [.Name x pos'] e pos) (zE te (lS i)):=by
 intro a s σ H D I h;refine wpAny_Assign_Name (bV (he a s σ H _ I h) λv s1 ⟨y,k,j,b,c⟩=>?_) hs;exact wR j hN hi hx b (λs2 g=>⟨_,k,g,c⟩) hf
theorem q01(i:Nat){x:Str}{e:Expr}{te:TE}{pos':Pos}(hN:X.N.Nodup)(he:PE X e te)(hi:autoParam (X.N[i]?=some x) zz0._auto_1)(hx:autoParam (Loc X.env.scope x) zzl._auto_1)(hs:autoParam (swapsWith e (some (.Name x pos')) pos.line X.env=pure false) zz0._auto_1)(hf:autoParam t⁻¹ zz3._auto_1):
  PS X (.Assign [.Name x pos'] e pos) (zE te (lS i)):=aB hN hi hx he hs hf
end
structure It where
 go:Nat->Hp->Prop
 yld:Nat->Hp->V->Hp->Prop
 stop:Nat->Hp->Prop
def pH(X:Cx)(pins:M7)(H:Hp)(b:Addr):Prop:=
 H b=none/\b≠X.env.locals/\b∉X.fs/\(b∈X.ex\/X.s₀.heap.objs.size<=b)/\(∀x c,X.env.cells.lookup x=some c->c≠b)/\∀p∈X.pn++pins,p.1≠b
theorem Inv.fpOk{pins:M7}{σ:St}{H':Hp}{b:Addr}(I:Inv X pins σ H s)(hb:s.heap.objs.size<=b)(hn:H' b=none):pH X pins H' b:=by
 refine⟨hn,Nat.ne_of_gt (Mt I.lt hb),I.nofs hb,.inr (MG I.sz hb),λx c e z=>?_,λp a z=>?_⟩
 ·obtain⟨v,q⟩:=I.cell x c e
  exact q0O (Mt q.lt (by rw[z];exact hb)) (MH _)
 ·exact q0O (Mt (MB (I.pin p a).1) (by rw[z];exact hb)) (MH _)
structure rR(P:Nf)(w:Ni)(K:M6)(tg:Expr)(J:It)(fp:Nb)(it:Addr)(tn:Nat->Heap->Prop):Prop where
 mem:it∈fp
 obj:∀i h,tn i h->∀b∈fp,∃o,h.get? b=some o/\∀v,o.data≠.cell v
 keep:∀i h h',tn i h->(∀b∈fp,∀o,h.get? b=some o->h'.get? b=some o)->tn i h'
 item:∀(X:Cx),X.prog=P->X.w=w->X.K=K->X.calm=true->∀(i:Nat) (pins:M7) (s:M9) (σ:St) (H:Hp) (E:M5),Inv X pins σ H s->(∀b∈fp,pH X pins H b)->tn i s.heap->J.go i H ->
  wpAny (model P w) X.A (pyNext (.ref it)) (λr s1=>∃u,r=some u /\
   wpAny (model P w) X.A (letOwnedTupleGo tg (.ref it) u) (λ_ s2=>∃x H',Inv X pins σ H' s2/\bi x u/\J.yld i H x H'/\tn (i+1) s2.heap/\∀b∈fp,H' b=none) E s1) E s
 done:∀(X:Cx),X.prog=P->X.w=w->X.K=K->X.calm=true->∀(i:Nat) (pins:M7) (s:M9) (σ:St) (H:Hp) (E:M5),Inv X pins σ H s->(∀b∈fp,pH X pins H b)->tn i s.heap->J.stop i H ->
  wpAny (model P w) X.A (pyNext (.ref it)) (λr s1=>r=none/\Inv X pins σ H s1) E s
 self:∀(A:Nh) (i:Nat) (s:M9) (Q:M5) (E:M5),tn i s.heap->Q (.ref it) s->wpAny (model P w) A (pyIter (.ref it)) Q E s
abbrev TI:=St->Hp->(It->Hp->Prop)->Prop
def JL(X:Cx)(pins:M7)(σ:St)(tg:Expr)(R:It->Hp->Prop)(itv:Value)(s2:M9):Prop:=
 ∃(it:Addr) (fp:Nb) (tn:Nat->Heap->Prop) (J:It) (H':Hp),itv=.ref it/\Inv X pins σ H' s2/\rR X.prog X.w X.K tg J fp it tn/\tn 0 s2.heap/\(∀b∈fp,pH X pins H' b)/\R J H'
def PI(X:Cx)(tg iter:Expr)(wi:TI):Prop:=
 ∀(pins:M7) (s:M9) (σ:St) (H:Hp) (R:It->Hp->Prop),Inv X pins σ H s->wi σ H R ->
  wpAny c⁻¹ X.A (eval iter X.env) (λv s1=>wpAny c⁻¹ X.A (pyIter v) (JL X pins σ tg R) X.xe s1) X.xe s
theorem xl{s:M9}{tg:Expr}{it:Addr}{u:Value}{o:Obj}{Q:Unit->Shared->Prop}(ho:s.heap.get? it=some o)(hc:o.cls=.type n)(hd:o.data=.fields vs)
  (hn:["enumerate","zip","dict_itemiterator","dict_reverseitemiterator","odict_iterator","itertools.zip_longest","itertools.pairwise"].contains n=false) (hQ:Q () s):wpAny M A (letOwnedTupleGo tg (.ref it) u) Q E s:=by
 unfold letOwnedTupleGo;cases tg<;>first
  |exact q05 hQ
  | (cases u<;>first
    |exact q05 hQ
    | (refine q04 (wpAny_load ho ?_)
       rw[hc,hd];show wpAny M A (if(["enumerate","zip","dict_itemiterator","dict_reverseitemiterator","odict_iterator","itertools.zip_longest","itertools.pairwise"].contains n&&vs[0]?==some (rawInt _))=true then _ else _) Q E s;rw[q06 (by intro h;rw[hn,Bool.false_and]at h;cases h)];exact q05 hQ))
def Fc(K:M6)(a:Addr):It:=
 ⟨λi H=>∃xs x,aO K H a xs/\xs[i]?=some x,λi H x H'=>H'=H/\∀xs,aO K H a xs->xs[i]?=some x,λi H=>∃xs,aO K H a xs/\xs.length<=i⟩
def Gz(K:M6)(a:Addr):It:=
 ⟨λi H=>∃xs x,aS K H a xs/\xs[i]?=some x,λi H x H'=>H'=H/\∀xs,aS K H a xs->xs[i]?=some x,λi H=>∃xs,aS K H a xs/\xs.length<=i⟩
def CK(lo:Int)(n:Nat):It:=⟨λi _=>i<n,λi H x H'=>H'=H/\x=.int (lo+i),λi _=>n<=i⟩
theorem A_{K:M6}{tg:Expr}(a it:Addr):rR P w K tg (Fc K a) [it] it (λi h=>h.IsListIter it a i) where
 mem:=by simp
 obj:=λi h g b l=>by
  have e:b=it:=by simpa using l
  subst e;obtain⟨o,e,c,d⟩:=g;exact⟨o,e,λv z=>by rw[d]at z;cases z⟩
 keep:=λi h n g k=>g.at λo e=>k it (by simp) o e
 item:=by
  intro X C B D R i j s σ H E I hf g hg;subst C B D;obtain⟨S,x,m,y⟩:=hg;obtain⟨r,q,p,Y⟩:=I.list m;obtain⟨u,hu,U⟩:=q.get y;obtain⟨O,M,f2,L,J,G⟩:=hf it (by simp);refine wpAny_pyNext_list_item g p.isList (x:=u) (by simpa using hu) λn st' T=>?_;have I1:Inv X j σ H {s with heap:=n }:=I.turned (t':=s.toks) (λb o l e=>(T.2 b l).trans e) O M L J G;obtain⟨o,e,c,d⟩:=id st';exact⟨u,rfl,xl (s:={s with heap:=n }) e c d nofun ⟨x,H,I1,U,⟨rfl,λys Z=>by rw[I.list_inj Z m];exact y⟩,st',λb l=>(hf b l).1⟩⟩
 done:=by
  intro X C B D R i j s σ H E I hf g hg;subst C B D;obtain⟨S,m,y⟩:=hg;obtain⟨r,q,p,Y⟩:=I.list m;obtain⟨O,M,f2,L,J,G⟩:=hf it (by simp);have hl:=q.length;exact wpAny_pyNext_list_end (I.ok.hd R) g p.isList (by simp;omega) λn eb=>⟨rfl,I.turned (t':=s.toks) (λb o l e=>eb b o l e) O M L J G⟩
 self:=λ_ _ _ _ _ g h=>wpAny_pyIter_listiter g h
theorem yK{K:M6}{tg:Expr}(a it:Addr):rR P w K tg (Gz K a) [it] it (λi h=>h.IsTupleIter it a i) where
 mem:=by simp
 obj:=λi h g b m=>by
  have e:b=it:=by simpa using m
  subst e;obtain⟨o,e,c,d⟩:=g;exact⟨o,e,λv z=>by rw[d]at z;cases z⟩
 keep:=λi h q g k=>g.at λo e=>k it (by simp) o e
 item:=by
  intro X C B D R i j s σ H E I hf g hg;subst C B D;obtain⟨S,x,n,y⟩:=hg;obtain⟨l,r,p,Y⟩:=I.tuple n;obtain⟨u,hu,U⟩:=r.get y;obtain⟨O,M,f2,L,J,G⟩:=hf it (by simp);refine wpAny_pyNext_tuple_item g (show s.heap.IsTuple a l.toArray from p) (x:=u) (by simpa using hu) λq st' T=>?_;have I1:Inv X j σ H {s with heap:=q }:=I.turned (t':=s.toks) (λb o m e=>(T.2 b m).trans e) O M L J G;obtain⟨o,e,c,d⟩:=id st';exact⟨u,rfl,xl (s:={s with heap:=q }) e c d nofun ⟨x,H,I1,U,⟨rfl,λys Z=>by rw[I.tuple_inj Z n];exact y⟩,st',λb m=>(hf b m).1⟩⟩
 done:=by
  intro X C B D R i j s σ H E I hf g hg;subst C B D;obtain⟨S,n,y⟩:=hg;obtain⟨l,r,p,Y⟩:=I.tuple n;obtain⟨O,M,f2,L,J,G⟩:=hf it (by simp);have hl:=r.length;exact wpAny_pyNext_tuple_end (I.ok.hd R) g (show s.heap.IsTuple a l.toArray from p) (by simp;omega) λq eb=>⟨rfl,I.turned (t':=s.toks) (λb o m e=>eb b o m e) O M L J G⟩
 self:=λ_ _ _ _ _ g h=>wpAny_pyIter_tupleiter g h
theorem x6{K:M6}{tg:Expr}(it:Addr)(lo:Int)(n:Nat):rR P w K tg (CK lo n) [it] it (λi h=>IsRangeIter h it (lo+(i:Nat)*1) ((n:Int)-(i:Nat)) 1) where
 mem:=by simp
 obj:=λi h a b g=>by
  have e:b=it:=by simpa using g
  subst e;exact⟨_,a,λv z=>by
   have D:Data.fields _=Data.cell v:=z;cases D⟩
 keep:=λi h j a k=>k it (by simp) _ a
 item:=by
  intro X p l q m i c s σ H E I hf a hg;subst p l q;obtain⟨B,y,L,x,u,r⟩:=hf it (by simp);have W:=Walks.range (prog:=X.prog) (w:=X.w) (I.ok.hd m) it lo 1 n;refine W.item i s _ _ hg a λv j C J st' G=>?_;obtain⟨t,rfl⟩:=J;have O:Inv X c σ H {s with heap:=j,toks:=C}:=I.turned (λb o g e=>G b o (by simpa using g) e) B y x u r;refine⟨_,rfl,xl (s:={s with heap:=j,toks:=C}) (n:="range_iterator") st' rfl rfl nofun ⟨.int (lo+i),H,O,⟨t,?_⟩,⟨rfl,rfl⟩,st',λb g=>(hf b g).1⟩⟩;rw[Int.mul_one]
 done:=by
  intro X p l q m i c s σ H E I hf a hg;subst p l q;obtain⟨B,y,L,x,u,r⟩:=hf it (by simp);exact wpAny_pyNext_range_end (I.ok.hd m) a (by have:n<=i:=hg;omega) λj M=>⟨rfl,I.turned (t':=s.toks) (λb o g e=>M b o g e) B y x u r⟩
 self:=λ_ _ _ _ _ a h=>wpAny_pyIter_rangeiter a h
section
variable {X:Cx}{tg:Expr}
def C9(K:M6)(tl:TE):TI:=λσ H R=>tl σ H λx H1=>∃a,x=.ref a/\(∃xs,aO K H1 a xs)/\R (Fc K a) H1
def Hh(K:M6)(tl:TE):TI:=λσ H R=>tl σ H λx H1=>∃a,x=.ref a/\(∃xs,aS K H1 a xs)/\R (Gz K a) H1
theorem cv{tl:TE}(hl:PE X l tl):PI X tg l (C9 X.K tl):=by
 intro c s σ H R I h;refine bV (hl c s σ H _ I h) λv g ⟨x,u,j,k,m⟩=>?_;obtain⟨a,e,⟨xs,n⟩,q⟩:=m;subst e;cases k;obtain⟨its,rv,p,hz⟩:=j.list n;refine wpAny_pyIter_list p.isList ?_;refine⟨g.heap.objs.size,[g.heap.objs.size],_,_,u,rfl,j.kept (t':=g.toks) λb o e=>Ma _ e,A_ a _,⟨_,Mg _ rfl,rfl,rfl⟩,λb r=>?_,q⟩;have e:b=g.heap.objs.size:=by simpa using r
 subst e;exact j.fpOk (My _) (j.hok.fresh (My _))
theorem u7{tl:TE}(hl:PE X l tl):PI X tg l (Hh X.K tl):=by
 intro g s σ H R I h;refine bV (hl g s σ H _ I h) λv c ⟨x,w,j,m,n⟩=>?_;obtain⟨a,e,⟨xs,r⟩,q⟩:=n;subst e;cases m;obtain⟨k,rv,p,hz⟩:=j.tuple r;refine wpAny_pyIter_tuple (show c.heap.IsTuple a k.toArray from p) ?_;refine⟨c.heap.objs.size,[c.heap.objs.size],_,_,w,rfl,j.kept (t':=c.toks) λb o e=>Ma _ e,yK a _,⟨_,Mg _ rfl,rfl,rfl⟩,λb u=>?_,q⟩;have e:b=c.heap.objs.size:=by simpa using u
 subst e;exact j.fpOk (My _) (j.hok.fresh (My _))
theorem xB{pins:M7}{σ:St}{s:M9}{R:It->Hp->Prop}{E:M5}{lo hi:Int}{t u v:Tok}{tk:Nat}(I:Inv X pins σ H s)(h1:-(2 ^ 62)<=lo)(h2:lo<2 ^ 62)(h3:-(2 ^ 62)<=hi)(h4:hi<2 ^ 62)
  (q:R (CK lo (hi-lo).toNat) H):wpAny c⁻¹ X.A (pyIter r⁻¹) (JL X pins σ tg R) E {s with heap:=s.heap.push {cls:=.type "range",data:=.fields #[.int lo t,.int hi u,.int 1 v]},toks:=tk}:=by
 refine wpAny_pyIter_range (IsRange.new ..) (small_one h1 h2 h3 h4) ?_;have a:Inv X pins σ H {s with heap:=s.heap.push {cls:=.type "range",data:=.fields #[.int lo t,.int hi u,.int 1 v]},toks:=tk}:=I.kept λb o e=>Ma _ e;refine⟨(s.heap.push {cls:=.type "range",data:=.fields #[.int lo t,.int hi u,.int 1 v]}).objs.size,[(s.heap.push {cls:=.type "range",data:=.fields #[.int lo t,.int hi u,.int 1 v]}).objs.size],_,_,H,rfl,
  a.kept (t':=tk) λb o e=>Ma _ e,x6 _ lo (hi-lo).toNat,?_,λb c=>?_,q⟩
 ·have j:lo+((0:Nat):Int)*1=lo:=by simp
  have g:(((hi-lo).toNat:Nat):Int)-((0:Nat):Int)=Builtin.Range.rangeSize lo hi 1:=by rw[rangeSize_one];split<;>omega
  show IsRangeIter _ _ (lo+((0:Nat):Int)*1) ((((hi-lo).toNat:Nat):Int)-((0:Nat):Int)) 1;rw[j,g];exact Mg _ rfl
 ·have e:b=(s.heap.push {cls:=.type "range",data:=.fields #[.int lo t,.int hi u,.int 1 v]}).objs.size:=by simpa using c
  subst e;exact a.fpOk (My _) (a.hok.fresh (My _))
def C8(ta:TA):TI:=λσ H R=>ta σ H λvs H1=>∃j:Int,vs=[.int j]/\-(2 ^ 62)<=j/\j<2 ^ 62/\R (CK 0 j.toNat) H1
def EJ(ta:TA):TI:=λσ H R=>ta σ H λvs H1=>∃i j:Int,vs=[.int i,.int j]/\(-(2 ^ 62)<=i/\i<2 ^ 62/\-(2 ^ 62)<=j/\j<2 ^ 62)/\R (CK i (j-i).toNat) H1
theorem c7{a:Expr}{ta:TA}{p pos:Pos}(hg:Gl X "range")(hm:X.mg "range"=none)(ha:PA X [a] ta)(hs:autoParam (starEach [a] X.env=[(false,eval a X.env)]) zz0._auto_1):PI X tg (.Call (.Name "range" p) [a] [] pos) (C8 ta):=by
 intro b s σ H R I h;refine Call_ (fG I hg hm boot_range (PyProof.Rows.callWith_type1 (bV (ha pos b s σ H _ I h) λus s1 ⟨vs,H1,l,g,c⟩=>?_) hs rfl));obtain⟨j,e,c,k,q⟩:=c;subst e;cases g with
 |cons r rr=>
  cases rr;obtain⟨t,rfl⟩:=r;exact call_range_1 (xB l ⋯ ⋯ c k (by simpa using q))
theorem kG{a b:Expr}{ta:TA}{p pos:Pos}(hg:Gl X "range")(hm:X.mg "range"=none)(ha:PA X [a,b] ta)(hs:autoParam (starEach [a,b] X.env=[(false,eval a X.env),(false,eval b X.env)]) zz0._auto_1)(hs2:autoParam (starEach [b] X.env=[(false,eval b X.env)]) zz0._auto_1) :
  PI X tg (.Call (.Name "range" p) [a,b] [] pos) (EJ ta):=by
 intro c s σ H R I h;refine Call_ (fG I hg hm boot_range (PyProof.Rows.callWith_type1 (bV (ha pos c s σ H _ I h) λus s1 ⟨vs,H1,o,k,g⟩=>?_) (by rw[hs,hs2]) (by rw[hs2];rfl)));obtain⟨i,j,e,⟨g,n,m,l⟩,q⟩:=g;subst e;cases k with
 |cons r rr=>
  cases rr with
  |cons r' rr=>
   cases rr;obtain⟨t,rfl⟩:=r;obtain⟨t',rfl⟩:=r';exact call_range_2 (xB o g n m l q)
def Jo(wi:TI)(g:TG)(tb:TS):TS:=λD σ H=>wi σ H λJ H1=>∃W:Nat->Nat->St->Hp->Prop,(∃m,W 0 m σ H1)/\∀i m σ H,W i m σ H ->
 (J.stop i H/\D.nx σ H)\/(J.go i H/\∃N:St->Hp->Prop,(∀σ' H',N σ' H'->∃m',m'<m/\W (i+1) m' σ' H')/\∀x H',J.yld i H x H'->g x σ H' λσ2 H2=>tb {D with nx:=N,ct:=N,bk:=D.nx} σ2 H2)
def qQ(fp:Nb)(h:Heap):List (Addr×Obj):=fp.filterMap λb=>(h.get? b).map λo=>(b,o)
theorem jj{fp:Nb}{h:Heap}{b:Addr}{o:Obj}(hb:b∈fp)(e:h.get? b=some o):(b,o)∈qQ fp h:=List.mem_filterMap.mpr ⟨b,hb,by rw[e];rfl⟩
theorem CD{fp:Nb}{p:Addr×Obj}(hp:p∈qQ fp h):p.1∈fp/\h.get? p.1=some p.2:=by
 obtain⟨b,a,e⟩:=List.mem_filterMap.mp hp;cases q:h.get? b with
 |none=>rw[q]at e;cases e
 |some o=>
  rw[q]at e;have c:(b,o)=p:=q0Q e;subst c;exact⟨a,q⟩
theorem Inv.pinned{pins:M7}{σ:St}{fp:Nb}(I:Inv X pins σ H s)(hf:∀b∈fp,pH X pins H b)(ho:∀b∈fp,∃o,s.heap.get? b=some o/\∀v,o.data≠.cell v):Inv X (pins++qQ fp s.heap) σ H s:=
 I.pins_of λp hp=>(Mo.mp hp).elim (λz=>I.pin p (q0C _ z)) λz=>by
  obtain⟨hb,e⟩:=CD z;obtain⟨f0,f1,f2,_⟩:=hf p.1 hb;obtain⟨o,e',d⟩:=ho p.1 hb;rw[e]at e';cases e'
  exact⟨e,f0,f1,f2,d⟩
theorem Inv.unpinned{pins pl:M7}{σ:St}(I:Inv X (pins++pl) σ H s):Inv X pins σ H s:=I.pins_of λp hp=>I.pin p (q0C _ (q0D _ hp))
theorem HA{iter:Expr}{body:List Stmt}{wi:TI}{pos:Pos}(hp:PassesOwn c⁻¹ X.A X.env X.xe)(hc:X.calm=true)(hi:PI X tg iter wi)(hg:PG X tg g)(hb:wz X body tb)
  (hs:autoParam (∀x,foldedSetIterable iter X.env x=pure x) zz4._auto_1):PS X (.For tg iter body [] pos) (Jo wi g tb):=by
 intro a s σ H D I h;refine wpAny_For (bV (hi a s σ H _ I h) λv s1 h1=>bV h1 λitv s2 h2=>?_) hs;obtain⟨it,L,Y,J,H2,e,I2,T,O,f2,W,⟨m0,w0⟩,w⟩:=h2;subst e
 -- what stays true of the iterator's objects through the loop
 have c:∀{H':Hp},(∀b∈L,H' b=none)->∀b∈L,pH X a H' b:=λhn b hb=>⟨hn b hb,(f2 b hb).2⟩;refine codeAny_forLoop_any (λn s'=>∃i σ' H',Inv X a σ' H' s'/\Y i s'.heap/\(∀b∈L,H' b=none)/\W i n σ' H') ?_ m0 ⟨0,σ,H2,I2,O,λb hb=>(f2 b hb).1,w0⟩;rintro n s3 ⟨i,σ3,M,I3,B,G,w3⟩;rcases w i n σ3 M w3 with⟨y,qn⟩ | ⟨go,N,hN,step⟩
 ·refine wpAny_passesOwn hp (bV (T.done X rfl rfl rfl hc i a s3 σ3 M X.xe I3 (c G) B y) λr s4 ⟨hr,I4⟩=>?_)
  subst hr;exact wpAny_execs_nil ⟨σ3,M,I4,qn⟩
 ·refine wpAny_passesOwn hp (bV (T.item X rfl rfl rfl hc i a s3 σ3 M X.xe I3 (c G) B go) λr s4 ⟨u,hr,h4⟩=>?_)
  subst hr;refine wpAny_passesOwn hp (bV h4 λ_ Z ⟨x,H5,I5,r5,y5,q,S⟩=>?_);have U:=I5.pinned (c S) (T.obj _ _ q);refine wpAny_passesOwn hp (bV (hg _ Z σ3 H5 x u _ U r5 (step x H5 y5)) λ_ s6 ⟨σ6,H6,I6,q6⟩=>?_);refine wpAny_passesOwn hp (bV (hb _ s6 σ6 H6 _ I6 q6) λf R p=>?_);have j:∀{σ7:St} {l:Hp},Inv X (a++qQ L Z.heap) σ7 l R->N σ7 l->∃m,m<n/\∃i σ' H',Inv X a σ' H' R/\Y i R.heap/\(∀b∈L,H' b=none)/\W i m σ' H':=fun{σ7 l} k C=>by
   obtain⟨m',hm,w7⟩:=hN σ7 l C;refine⟨m',hm,i+1,σ7,l,k.unpinned,T.keep _ _ _ q λb hb o e=>(k.pin (b,o) (q0C _ (q0C _ (jj hb e)))).1,λb hb=>?_,w7⟩;obtain⟨o,e,d⟩:=T.obj _ _ q b hb;exact(k.pin (b,o) (q0C _ (q0C _ (jj hb e)))).2.1
  cases f with
  |next=>obtain⟨σ7,l,k,C⟩:=p;exact j k C
  |cont=>obtain⟨σ7,l,k,C⟩:=p;exact j k C
  |brk=>obtain⟨σ7,l,k,p⟩:=p;exact⟨σ7,l,k.unpinned,p⟩
  |ret v=>obtain⟨x7,σ7,l,k,r7,p⟩:=p;exact⟨x7,σ7,l,k.unpinned,r7,p⟩
end
theorem Ea{K:M6}{xs:List V}{g:TG}{tb:TS}{D:iO}{σ:St}{H:Hp}(Pv:Nat->St->Hp->Prop)(h0:Pv 0 σ H)(hl:∀i σ H,i<=xs.length->Pv i σ H->aO K H a xs)
  (hs:∀i x σ H,xs[i]?=some x->Pv i σ H->g x σ H λσ2 H2=>tb {D with nx:=Pv (i+1),ct:=Pv (i+1),bk:=D.nx} σ2 H2) (hd:∀σ H,Pv xs.length σ H->D.nx σ H) :
  ∃W:Nat->Nat->St->Hp->Prop,(∃m,W 0 m σ H)/\∀i m σ H,W i m σ H ->
   ((Fc K a).stop i H/\D.nx σ H)\/((Fc K a).go i H/\∃N:St->Hp->Prop,(∀σ' H',N σ' H'->∃m',m'<m/\W (i+1) m' σ' H')/\∀x H',(Fc K a).yld i H x H'->g x σ H' λσ2 H2=>tb {D with nx:=N,ct:=N,bk:=D.nx} σ2 H2):=by
 refine⟨λi m σ H=>m=xs.length-i/\i<=xs.length/\Pv i σ H,⟨xs.length,by simp,Mz _,h0⟩,?_⟩;rintro i m σ H ⟨rfl,c,p⟩;have q:=hl i σ H c p
 by_cases b:i<xs.length
 ·refine .inr ⟨⟨xs,xs[i],q,by simp[b]⟩,Pv (i+1),λσ' H' p'=>⟨xs.length-(i+1),⋯,rfl,b,p'⟩,λx H' y=>?_⟩
  obtain⟨e,y⟩:=y;subst e;exact hs i x σ _ (y xs q) p
 ·have e:i=xs.length:=by omega
  subst e;exact .inl ⟨⟨xs,q,My _⟩,hd σ H p⟩
theorem Fg{K:M6}{xs:List V}{g:TG}{tb:TS}{D:iO}{σ:St}{H:Hp}(Pv:Nat->St->Hp->Prop)(h0:Pv 0 σ H)(hl:∀i σ H,i<=xs.length->Pv i σ H->aS K H a xs)
  (hs:∀i x σ H,xs[i]?=some x->Pv i σ H->g x σ H λσ2 H2=>tb {D with nx:=Pv (i+1),ct:=Pv (i+1),bk:=D.nx} σ2 H2) (hd:∀σ H,Pv xs.length σ H->D.nx σ H) :
  ∃W:Nat->Nat->St->Hp->Prop,(∃m,W 0 m σ H)/\∀i m σ H,W i m σ H ->
   ((Gz K a).stop i H/\D.nx σ H)\/((Gz K a).go i H/\∃N:St->Hp->Prop,(∀σ' H',N σ' H'->∃m',m'<m/\W (i+1) m' σ' H')/\∀x H',(Gz K a).yld i H x H'->g x σ H' λσ2 H2=>tb {D with nx:=N,ct:=N,bk:=D.nx} σ2 H2):=by
 refine⟨λi m σ H=>m=xs.length-i/\i<=xs.length/\Pv i σ H,⟨xs.length,by simp,Mz _,h0⟩,?_⟩;rintro i m σ H ⟨rfl,c,p⟩;have q:=hl i σ H c p
 by_cases b:i<xs.length
 ·refine .inr ⟨⟨xs,xs[i],q,by simp[b]⟩,Pv (i+1),λσ' H' p'=>⟨xs.length-(i+1),⋯,rfl,b,p'⟩,λx H' y=>?_⟩
  obtain⟨e,y⟩:=y;subst e;exact hs i x σ _ (y xs q) p
 ·have e:i=xs.length:=by omega
  subst e;exact .inl ⟨⟨xs,q,My _⟩,hd σ H p⟩
theorem AK{lo:Int}{n:Nat}{g:TG}{tb:TS}{D:iO}{σ:St}{H:Hp}(Pv:Nat->St->Hp->Prop)(h0:Pv 0 σ H)
  (hs:∀i σ H,i<n->Pv i σ H->g (.int (lo+i)) σ H λσ2 H2=>tb {D with nx:=Pv (i+1),ct:=Pv (i+1),bk:=D.nx} σ2 H2) (hd:∀σ H,Pv n σ H->D.nx σ H) :
  ∃W:Nat->Nat->St->Hp->Prop,(∃m,W 0 m σ H)/\∀i m σ H,W i m σ H ->
   ((CK lo n).stop i H/\D.nx σ H)\/((CK lo n).go i H/\∃N:St->Hp->Prop,(∀σ' H',N σ' H'->∃m',m'<m/\W (i+1) m' σ' H')/\∀x H',(CK lo n).yld i H x H'->g x σ H' λσ2 H2=>tb {D with nx:=N,ct:=N,bk:=D.nx} σ2 H2):=by
 refine⟨λi m σ H=>m=n-i/\i<=n/\Pv i σ H,⟨n,by simp,Mz _,h0⟩,?_⟩;rintro i m σ H ⟨rfl,hi,p⟩
 by_cases a:i<n
 ·refine .inr ⟨a,Pv (i+1),λσ' H' p'=>⟨n-(i+1),⋯,rfl,a,p'⟩,λx H' y=>?_⟩
  obtain⟨e,y⟩:=y;subst e y;exact hs i σ _ a p
 ·have e:i=n:=by omega
  subst e;exact .inl ⟨My _,hd σ H p⟩
abbrev R2:=V->V->Hp->VK->Prop
def bg(X:Cx)(f:Value->Value->Sem Value)(r:R2):Prop:=
 ∀(pins:M7) (s:M9) (σ:St) (H:Hp) (x y:V) (v u:Value) (Q:VK),Inv X pins σ H s->bi x v->bi y u->r x y H Q ->
  wpAny c⁻¹ X.A (f v u) (EP X pins σ Q) X.xe s
def I8(X:Cx)(f:Value->Sem Value)(r:V->Hp->VK->Prop):Prop:=
 ∀(pins:M7) (s:M9) (σ:St) (H:Hp) (x:V) (v:Value) (Q:VK),Inv X pins σ H s->bi x v->r x H Q ->
  wpAny c⁻¹ X.A (f v) (EP X pins σ Q) X.xe s
def gQ(X:Cx)(f:Value)(r:List V->Hp->VK->Prop):Prop:=
 ∀(pins:M7) (s:M9) (σ:St) (H:Hp) (xs:List V) (us:Na) (Q:VK),Inv X pins σ H s->bd xs us->r xs H Q ->
  wpAny c⁻¹ X.A (call f us) (EP X pins σ Q) X.xe s
def HM(r:R2)(ta tb:TE):TE:=λσ H Q=>ta σ H λx H1=>tb σ H1 λy H2=>r x y H2 Q
def Jk(r:V->Hp->VK->Prop)(ta:TE):TE:=λσ H Q=>ta σ H λx H1=>r x H1 Q
def rI(C:Int->Int->Prop)(g:Int->Int->V):R2:=λx y H Q=>∃i j,x=.int i/\y=.int j/\C i j/\Q (g i j) H
def Cn(g:Int->Int->V):R2:=λx y H Q=>∃i j,x=.int i/\y=.int j/\Q (g i j) H
def rU(g:Int->V):V->Hp->VK->Prop:=λx H Q=>∃i,x=.int i/\Q (g i) H
section
variable {X:Cx}{a b c:Expr}{ta tb tc:TE}{pos:Pos}
theorem HK(ha:PE X a ta)(hb:PE X b tb){pins:M7}{s:M9}{σ:St}{H:Hp}{R:V->V->Hp->Prop}(I:Inv X pins σ H s)
  (h:ta σ H λx H1=>tb σ H1 λy H2=>R x y H2) {Q:M5} {f:Value->Value->Sem Value}
  (hf:∀v u s2 x y H2,Inv X pins σ H2 s2->bi x v->bi y u->R x y H2->wpAny c⁻¹ X.A (f v u) Q X.xe s2) :
  wpAny c⁻¹ X.A (eval a X.env) (λv s₁=>wpAny c⁻¹ X.A (eval b X.env) (λu s₂=>wpAny c⁻¹ X.A (f v u) Q X.xe s₂) X.xe s₁) X.xe s:=by
 refine bV (ha pins s σ H _ I h) λv c ⟨x,H1,m,g,k⟩=>?_;refine bV (hb pins c σ H1 _ m k) λu s2 ⟨y,H2,l,e,j⟩=>?_;exact hf v u s2 x y H2 l g e j
theorem au{op:Operator}{r:R2}(ho:bg X (binaryOp op) r)(ha:PE X a ta)(hb:PE X b tb):PE X (.BinOp a op b pos) (HM r ta tb):=by
 intro c s σ H Q I h;exact wpAny_BinOp (HK ha hb I h λv u e x y l k j g q=>ho c e σ l x y v u Q k j g q)
theorem IH{op:UnaryOp}{r:V->Hp->VK->Prop}(ho:I8 X (unaryOp op) r)(ha:PE X a ta):PE X (.UnaryOp op a pos) (Jk r ta):=by
 intro b s σ H Q I h;exact UnaryOp_ (bV (ha b s σ H _ I h) λv c ⟨x,k,j,e,g⟩=>ho b c σ k x v Q j e g)
theorem IS{f:Value->Value->Sem Value}{C:Int->Int->Prop}{g:Int->Int->Int}
  (rule:∀(i j:Int) (t u:Tok) (s:M9) (Q:M5) (E:M5),C i j->Q (.int (g i j) s.toks) {s with toks:=s.toks+1}->wpAny c⁻¹ X.A (f (.int i t) (.int j u)) Q E s) :
  bg X f (rI C λi j=>.int (g i j)):=by
 intro pins s σ H x y v u Q I rx ry h;obtain⟨i,j,rfl,rfl,b,q⟩:=h;obtain⟨t,rfl⟩:=rx;obtain⟨a,rfl⟩:=ry;exact rule i j t a s _ _ b ⟨.int (g i j),H,I.tok _,⟨_,rfl⟩,q⟩
theorem Iy{f:Value->Value->Sem Value}{g:Int->Int->Int}
  (rule:∀(i j:Int) (t u:Tok) (s:M9) (Q:M5) (E:M5),Q (.int (g i j) s.toks) {s with toks:=s.toks+1}->wpAny c⁻¹ X.A (f (.int i t) (.int j u)) Q E s) :
  bg X f (Cn λi j=>.int (g i j)):=by
 intro pins s σ H x y v u Q I rx ry h;obtain⟨i,j,rfl,rfl,q⟩:=h;obtain⟨t,rfl⟩:=rx;obtain⟨a,rfl⟩:=ry;exact rule i j t a s _ _ ⟨.int (g i j),H,I.tok _,⟨_,rfl⟩,q⟩
theorem FE{f:Value->Value->Sem Value}{g:Int->Int->Bool}
  (rule:∀(i j:Int) (t u:Tok) (s:M9) (Q:M5) (E:M5),Q (.bool (g i j)) s->wpAny c⁻¹ X.A (f (.int i t) (.int j u)) Q E s) :
  bg X f (Cn λi j=>.bl (g i j)):=by
 intro pins s σ H x y v u Q I rx ry h;obtain⟨i,j,rfl,rfl,q⟩:=h;obtain⟨t,rfl⟩:=rx;obtain⟨a,rfl⟩:=ry;exact rule i j t a s _ _ ⟨.bl (g i j),H,I,rfl,q⟩
def E9(i j:Int):Prop:=(-(2 ^ 64)<i/\i<2 ^ 64)\/(-(2 ^ 64)<j/\j<2 ^ 64)
theorem E9.ok{i:Int}(h:E9 i j):IntMulOk i j:=by
 rcases h with⟨h1,h2⟩ | ⟨h1,h2⟩
 ·exact .of_left (intBits_le_64 h1 h2)
 ·exact .of_right (intBits_le_64 h1 h2)
theorem bO:bg X (binaryOp .Add) (Cn λi j=>.int (i+j)):=Iy λ_ _ _ _ _ _ _ q=>add_int q
theorem fu:bg X (binaryOp .Sub) (Cn λi j=>.int (i-j)):=Iy λ_ _ _ _ _ _ _ q=>sub_int q
theorem fW:bg X (binaryOp .Mult) (rI E9 λi j=>.int (i*j)):=IS λ_ _ _ _ _ _ _ hc q=>mul_int q hc.ok
theorem bj:bg X (binaryOp .Mod) (rI (λ_ j=>0<j) λi j=>.int (i%j)):=IS λi j _ _ _ _ _ hc q=>by
 have h1:(0:Int)<j:=hc;exact mod_int' ⋯ (by rw[Int.fmod_eq_emod_of_nonneg i ⋯];exact q)
theorem Lh{f:Value->Sem Value}{g:Int->Int}
  (rule:∀(i:Int) (t:Tok) (s:M9) (Q:M5) (E:M5),Q (.int (g i) s.toks) {s with toks:=s.toks+1}->wpAny c⁻¹ X.A (f (.int i t)) Q E s) :
  I8 X f (rU λi=>.int (g i)):=by
 intro pins s σ H x v Q I rx h;obtain⟨i,rfl,q⟩:=h;obtain⟨t,rfl⟩:=rx;exact rule i t s _ _ ⟨.int (g i),H,I.tok _,⟨_,rfl⟩,q⟩
theorem Hj:I8 X (unaryOp .USub) (rU λi=>.int (-i)):=Lh λ_ _ _ _ _ q=>neg_int q
end
def BW:V->V->Bool
 | .non,.non=>true | .non,.int _=>true | .int _,.non=>true | .non,.bl _=>true | .bl _,.non=>true | .non,.str _=>true | .str _,.non=>true
 | .int _,.int _=>true | .bl _,.bl _=>true | .str _,.str _=>true | .byt _,.byt _=>true
 | .int _,.str _=>true | .str _,.int _=>true | .bl _,.str _=>true | .str _,.bl _=>true
 |_,_=>false
def Jm:R2:=λx y H Q=>BW x y=true/\Q (.bl (decide (x=y))) H
def Jp:R2:=λx y H Q=>BW x y=true/\Q (.bl (!decide (x=y))) H
theorem Ao{i j:Int}:decide (V.int i=V.int j)=(i==j):=by
 rw[Bool.eq_iff_iff];simp
theorem Dw{i:Bool}:decide (V.bl i=V.bl j)=(i==j):=by
 rw[Bool.eq_iff_iff];simp
theorem AD{i:Str}:decide (V.str i=V.str j)=(i==j):=by
 rw[Bool.eq_iff_iff];simp
theorem zV{i:Array UInt8}:decide (V.byt i=V.byt j)=(i.toList==j.toList):=by
 rw[Bool.eq_iff_iff];cases i;cases j;simp
section
variable {X:Cx}{a b c:Expr}{ta tb tc:TE}{pos:Pos}
theorem bE{pins:M7}{σ:St}{Q:VK}{k':Bool}(I:Inv X pins σ H s)(q:Q (.bl k) H)(e:k=k'):EP X pins σ Q (.bool k') s:=by
 subst e;exact⟨.bl k,H,I,rfl,q⟩
theorem dn:bg X (compareOp .Eq) Jm:=by
 intro pins s σ H x y v u Q I rx ry h;obtain⟨b,q⟩:=h;cases x with
 |non=>
  cases rx;cases y with
  |non=>cases ry;exact PySem.EqNone.eq_none_none (bE I q (by simp))
  |bl j=>cases ry;exact PySem.EqNone.eq_none_bool (bE I q (by simp))
  |int j=>obtain⟨a,rfl⟩:=ry;exact PySem.EqNone.eq_none_int (bE I q (by simp))
  |str j=>obtain⟨a,rfl⟩:=ry;exact PySem.EqNone.eq_none_str (bE I q (by simp))
  |_=>exact q0O (show false=true from b) MA
 |bl i=>
  cases rx;cases y with
  |non=>cases ry;exact PySem.EqNone.eq_bool_none (bE I q (by simp))
  |bl j=>cases ry;exact eq_bool (bE I q Dw)
  |str j=>obtain⟨a,rfl⟩:=ry;exact PySem.EqMixed.eq_bool_str (bE I q (by simp))
  |_=>exact q0O (show false=true from b) MA
 |int i=>
  obtain⟨t,rfl⟩:=rx;cases y with
  |non=>cases ry;exact PySem.EqNone.eq_int_none (bE I q (by simp))
  |int j=>obtain⟨a,rfl⟩:=ry;exact eq_int (bE I q Ao)
  |str j=>obtain⟨a,rfl⟩:=ry;exact PySem.EqMixed.eq_int_str (bE I q (by simp))
  |_=>exact q0O (show false=true from b) MA
 |str i=>
  obtain⟨t,rfl⟩:=rx;cases y with
  |non=>cases ry;exact PySem.EqNone.eq_str_none (bE I q (by simp))
  |bl j=>cases ry;exact PySem.EqMixed.eq_str_bool (bE I q (by simp))
  |int j=>obtain⟨a,rfl⟩:=ry;exact PySem.EqMixed.eq_str_int (bE I q (by simp))
  |str j=>obtain⟨a,rfl⟩:=ry;exact eq_str (bE I q AD)
  |_=>exact q0O (show false=true from b) MA
 |byt i=>
  obtain⟨t,rfl⟩:=rx;cases y with
  |byt j=>obtain⟨a,rfl⟩:=ry;exact PySem.W.eq_bytes (bE I q zV)
  |_=>exact q0O (show false=true from b) MA
 |_=>cases y<;>exact q0O (show false=true from b) MA
theorem oS:bg X (compareOp .NotEq) Jp:=by
 intro pins s σ H x y v u Q I rx ry h;obtain⟨b,q⟩:=h;cases x with
 |non=>
  cases rx;cases y with
  |non=>cases ry;exact PySem.EqNone.ne_none_none (bE I q (by simp))
  |bl j=>cases ry;exact PySem.EqNone.ne_none_bool (bE I q (by simp))
  |int j=>obtain⟨a,rfl⟩:=ry;exact PySem.EqNone.ne_none_int (bE I q (by simp))
  |str j=>obtain⟨a,rfl⟩:=ry;exact PySem.EqNone.ne_none_str (bE I q (by simp))
  |_=>exact q0O (show false=true from b) MA
 |bl i=>
  cases rx;cases y with
  |non=>cases ry;exact PySem.EqNone.ne_bool_none (bE I q (by simp))
  |bl j=>cases ry;exact ne_bool (bE I q (q0P not Dw))
  |str j=>obtain⟨a,rfl⟩:=ry;exact PySem.EqMixed.ne_bool_str (bE I q (by simp))
  |_=>exact q0O (show false=true from b) MA
 |int i=>
  obtain⟨t,rfl⟩:=rx;cases y with
  |non=>cases ry;exact PySem.EqNone.ne_int_none (bE I q (by simp))
  |int j=>obtain⟨a,rfl⟩:=ry;exact ne_int (bE I q (q0P not Ao))
  |str j=>obtain⟨a,rfl⟩:=ry;exact PySem.EqMixed.ne_int_str (bE I q (by simp))
  |_=>exact q0O (show false=true from b) MA
 |str i=>
  obtain⟨t,rfl⟩:=rx;cases y with
  |non=>cases ry;exact PySem.EqNone.ne_str_none (bE I q (by simp))
  |bl j=>cases ry;exact PySem.EqMixed.ne_str_bool (bE I q (by simp))
  |int j=>obtain⟨a,rfl⟩:=ry;exact PySem.EqMixed.ne_str_int (bE I q (by simp))
  |str j=>obtain⟨a,rfl⟩:=ry;exact ne_str (bE I q (q0P not AD))
  |_=>exact q0O (show false=true from b) MA
 |byt i=>
  obtain⟨t,rfl⟩:=rx;cases y with
  |byt j=>obtain⟨a,rfl⟩:=ry;exact PySem.W.ne_bytes (bE I q (q0P not zV))
  |_=>exact q0O (show false=true from b) MA
 |_=>cases y<;>exact q0O (show false=true from b) MA
theorem rF:bg X (compareOp .Lt) (Cn λi j=>.bl (decide (i<j))):=FE λ_ _ _ _ _ _ _ q=>lt_int q
theorem lQ:bg X (compareOp .LtE) (Cn λi j=>.bl (decide (i<=j))):=FE λ_ _ _ _ _ _ _ q=>le_int q
theorem ia:bg X (compareOp .Gt) (Cn λi j=>.bl (decide (j<i))):=FE λ_ _ _ _ _ _ _ q=>gt_int q
theorem Gw:bg X (compareOp .GtE) (Cn λi j=>.bl (decide (j<=i))):=FE λ_ _ _ _ _ _ _ q=>ge_int q
theorem Bc:bg X (compareOp .In) (λx y H Q=>∃i j,x=.str i/\y=.str j/\Q (.bl (!(Builtin.Str.occurrences j i 0 j.length 1).isEmpty)) H):=by
 intro pins s σ H x y v u Q I rx ry h;obtain⟨i,j,rfl,rfl,q⟩:=h;obtain⟨t,rfl⟩:=rx;obtain⟨t',rfl⟩:=ry;exact in_str (bE I q rfl)
theorem vx:bg X (compareOp .Is) (λx y H Q=>y=.non/\Q (.bl (decide (x=.non))) H):=by
 intro pins s σ H x y v u Q I rx ry h;obtain⟨rfl,q⟩:=h;cases ry;refine is_none_gen (bE I q ?_);cases x<;>first
  | (cases rx;rfl)
  | (obtain⟨t,rfl⟩:=rx;rfl)
theorem Az:bg X (compareOp .IsNot) (λx y H Q=>y=.non/\Q (.bl (!decide (x=.non))) H):=by
 intro pins s σ H x y v u Q I rx ry h;obtain⟨rfl,q⟩:=h;cases ry;refine isnot_none_gen (bE I q ?_);cases x<;>first
  | (cases rx;rfl)
  | (obtain⟨t,rfl⟩:=rx;rfl)
theorem u8:bg X (compareOp .NotIn) (λx y H Q=>∃i j,x=.str i/\y=.str j/\Q (.bl (!(!(Builtin.Str.occurrences j i 0 j.length 1).isEmpty))) H):=by
 intro pins s σ H x y v u Q I rx ry h;obtain⟨i,j,rfl,rfl,q⟩:=h;obtain⟨t,rfl⟩:=rx;obtain⟨t',rfl⟩:=ry;exact notIn_str (bE I q rfl)
theorem aI(b:Expr){op:CmpOp}(h:autoParam (op≠.In) zz1._auto_1)(h2:autoParam (op≠.NotIn) zz1._auto_1):behindInMarks op b=false:=by
 have c:(op==CmpOp.In)=false:=by cases op<;>first | rfl | exact q0O rfl h
 have a:(op==CmpOp.NotIn)=false:=by cases op<;>first | rfl | exact q0O rfl h2
 cases b<;>simp[behindInMarks,c,a]
theorem gn{op:CmpOp}{r:R2}(ho:bg X (compareOp op) r)(ha:PE X a ta)(hb:PE X b tb)(hm:behindInMarks op b=false):PE X (.Compare a [op] [b] pos) (HM r ta tb):=by
 intro c s σ H Q I h;exact wpAny_Compare1 (HK ha hb I h λv u e x y l k j g q=>ho c e σ l x y v u Q k j g q) hm
def xH(t:TE):TT:=λσ H Q=>t σ H λx H'=>∃k,x=.bl k/\Q k H'
theorem aE{op:CmpOp}{r:R2}(ho:bg X (compareOp op) r)(ha:PE X a ta)(hb:PE X b tb)(hm:behindInMarks op b=false):PT X (.Compare a [op] [b] pos) (xH (HM r ta tb)):=by
 intro g s σ H Q I h;refine wpAny_isTrue_Compare1 (bV (ha g s σ H _ I h) λv l ⟨x,L,D,o,w⟩=>bV (hb g l σ L _ D w) λu j ⟨y,J,C,n,q⟩=>
  bV (ho g j σ J x y v u _ C o n q) λc s3 ⟨z,G,B,m,k,e,p⟩=>?_) hm
 subst e;cases m;exact wpAny_truthy_bool ⟨G,B,p⟩
def uY(r r':R2)(ta tb tc:TE):TE:=λσ H Q=>ta σ H λx H1=>tb σ H1 λy H2=>r x y H2 λz H3=>∃k,z=.bl k /\
 (if k=true then tc σ H3 λw' H4=>r' y w' H4 Q else Q (.bl false) H3)
theorem xC{op op':CmpOp}{r r':R2}(ho:bg X (compareOp op) r)(ho':bg X (compareOp op') r')(ha:PE X a ta)(hb:PE X b tb)(hc:PE X c tc)
  (hm:autoParam (lastMarks [op,op'] [b,c]=false) zz5._auto_1):PE X (.Compare a [op,op'] [b,c] pos) (uY r r' ta tb tc):=by
 intro g s σ H Q I h;refine Compare_chain (bV (ha g s σ H _ I h) λv B ⟨x,Y,S,G,M⟩=>chain_link (bV (hb g B σ Y _ S M) λu w ⟨y,U,R,j,L⟩=>
  bV (ho g w σ U x y v u _ R G j L) λd q ⟨z,n,m,D,k,e,l⟩=>?_)) hm
 subst e;cases D;refine wpAny_truthy_bool ?_;cases k with
 |false=>exact ite_ff ⟨.bl false,n,m,rfl,l⟩
 |true=>exact ite_tt (chain_last (bV (hc g q σ n _ m l) λw' p ⟨o,T,O,C,J⟩=>ho' g p σ T y o u w' Q O j C J))
theorem xw{op op':CmpOp}{r r':R2}(ho:bg X (compareOp op) r)(ho':bg X (compareOp op') r')(ha:PE X a ta)(hb:PE X b tb)(hc:PE X c tc)
  (hm:autoParam (lastMarks [op,op'] [b,c]=false) zz5._auto_1):PT X (.Compare a [op,op'] [b,c] pos) (xH (uY r r' ta tb tc)):=by
 intro g s σ H Q I h;refine isTrue_chain (bV (ha g s σ H _ I h) λv B ⟨x,H1,I1,J,R⟩=>test_link (bV (hb g B σ H1 _ I1 R) λu w ⟨y,H2,I2,j,O⟩=>
  bV (ho g w σ H2 x y v u _ I2 J j O) λd q ⟨z,n,m,G,k,e,l⟩=>?_)) hm
 subst e;cases G;refine wpAny_truthy_bool ?_;cases k with
 |false=>
  obtain⟨k',U,S⟩:=l;cases U;exact ite_ff ⟨n,m,S⟩
 |true=>
  refine ite_tt (test_last (bV (hc g q σ n _ m l) λw' p ⟨o,H4,Z,D,M⟩=>bV (ho' g p σ H4 y o u w' _ Z j D M) λd' s5 ⟨z2,H5,Y,C,k2,T,L⟩=>?_));subst T;cases C;exact wpAny_truthy_bool ⟨H5,Y,L⟩
theorem ql:(sizeLine:Nat)<2 ^ 63:=by rw[q0S];decide
theorem fC:bg X (binaryOp .Add) (λx y H Q=>∃i j,x=.str i/\y=.str j/\i.length+j.length<=sizeLine/\Q (.str (i++j)) H):=by
 intro pins s σ H x y v u Q I rx ry h;obtain⟨i,j,rfl,rfl,b,q⟩:=h;obtain⟨t,rfl⟩:=rx;obtain⟨a,rfl⟩:=ry;exact add_str (λa tk=>⟨.str (i++j),H,I.tok _,⟨_,rfl⟩,q⟩) b
theorem rP{x:V}{us:Na}(r:bd [x] us):∃u,us=[u]/\bi x u:=by
 cases r with
 |cons r1 r2=>cases r2;exact⟨_,rfl,r1⟩
theorem Ig{x y:V}{us:Na}(r:bd [x,y] us):∃u w',us=[u,w']/\bi x u/\bi y w':=by
 cases r with
 |cons r1 r2=>
  cases r2 with
  |cons r3 r4=>cases r4;exact⟨_,_,rfl,r1,r3⟩
end
structure zI(h:Heap)(x dx C:Addr)(mA:Nc):Prop where
 obj:h.get? x=some (PySem.W.instObj C dx)
 ns:h.Ns1 dx mA
 ne:dx≠x
set_option tactic.hygienic true in
theorem CC{h:Heap}{mA:Nc}(n:h.Ns1 dx mA):∃od,h.get? dx=some od/\∀name,PySem.W.lookIn name od=some (mA name):=by
 obtain⟨o,es,ep,ho,hd,hk,_,hm⟩:=n;refine⟨o,ho,λname=>?_⟩;have e:=hm name;unfold nsFind findBy at e;rw[<- Array.find?_toList]at e;unfold PySem.W.lookIn;rw[hd];dsimp only
 split
 ·rename_i y q
  rw[q]at e;exact q0P some e
 ·rename_i q
  rw[q]at e;have a:es.toList.any (·.refKey)=false:=by
   rw[List.any_eq_false];intro y hy;obtain⟨z,t,hkey⟩:=hk y (Array.mem_toList_iff.mp hy);simp[DictEntry.refKey,hkey]
  have a':¬ es.toList.any (·.refKey)=true:=by rw[a];exact MA
  rw[q06 a'];exact q0P some e
theorem zI.look{mA:Nc}(I:zI h x dx C mA):∃od,PySem.W.InstAt h x (PySem.W.instObj C dx) C (some od)/\∀name,PySem.W.lookIn name od=some (mA name):=
 let ⟨od,ho,hl⟩:=CC I.ns
 ⟨od,⟨I.obj,rfl,rfl,ho⟩,hl⟩
section
variable {prog:Nf}{w:Ni}{A:Nh}{E:M5}{s:M9}{K:M6}{x dx C f:Addr}{mA:Nc}{name:Str}{v:Value}
theorem Fx{expr:Bool}{Q:M5}(X:K.In s.heap)(I:zI s.heap x dx C mA)(hg:PySem.W.plainGet K C name=true)(hh:PySem.W.hasDictIn K C=true)
  (ha:PySem.W.findIn K (.ref C) name=some none) (hv:mA name=some v) (hv':PySem.W.handedIn v=true) (h:Q v {s with toks:=s.toks+1}) :
  wpAny d⁻¹ A (getAttr (.ref x) name expr) Q E s:=by
 obtain⟨od,J,a⟩:=I.look;exact PySem.W.get_value X J (PySem.W.plainGet_of hg).1 (PySem.W.findObj_own hh ha rfl (by rw[a,hv])) hv' h
theorem D2{pl:Sem Bool}{Q:Value×List Value->Shared->Prop}(X:K.In s.heap)(I:zI s.heap x dx C mA)(hg:PySem.W.plainGet K C name=true)
  (hf:PySem.W.findIn K (.ref C) name=some (some (.ref f))) (ht:PySem.W.isFn K (.ref f)=true) (hv:mA name=none) (h:Q (.ref f,[.ref x]) s) :
  wpAny d⁻¹ A (getMethod (.ref x) name pl) Q E s:=by
 obtain⟨a,J,b⟩:=I.look;exact PySem.W.method_fn X J (PySem.W.plainGet_of hg).1 (PySem.W.plainGet_of hg).2 hf (beq_iff_eq.mp ht) (by show(PySem.W.lookIn name a).map (·.isSome)=some false;rw[b,hv];rfl) h
theorem FN{Q:Unit->Shared->Prop}(X:K.In s.heap)(I:zI s.heap x dx C mA)
  (hs:PySem.W.findIn K (.ref C) "__setattr__"=some o⁻¹) (hp:PySem.W.plainOver K C=true) (ht:PySem.W.takerIn K C name=some none) (hh:PySem.W.hasDictIn K C=true)
  (hw:PySem.Within mA ns) (hsz:ns.length<=sizeLine)
  (h:∀h',zI h' x dx C (λy=>if y=name then some v else mA y)->Heap.SameBut dx s.heap h'->Q () {s with heap:=h',toks:=s.toks+2}) :
  wpAny d⁻¹ A (setAttr (.ref x) name v) Q E s:=by
 obtain⟨od,J,hl⟩:=I.look;refine PySem.W.set_plain X J hs (PySem.W.osa_open (s:={s with toks:=s.toks+1}) (r:=none) X J hp ht λb=>?_);obtain⟨cd,n,k⟩:=PySem.W.any_some hh;have m:s.heap.get? x=some ⟨.ref C,some dx,.plain,#[]⟩:=I.obj;refine q04 (q05 (q04 (q04 (wpAny_loadPart m (q04 (PySem.W.Looks.here (s:={s with toks:=s.toks+1}) (PySem.W.looks_clsIn X n) ?_))))));rw[k];refine q05 (a:=some dx) (q04 (q05 (q04 ?_)));refine wpAny_nsSet1 (s:={s with toks:=s.toks+1}) I.ns λh' e c=>?_;obtain⟨oD,esD,epD,g,j,l⟩:=e.count (PySem.Within.cons name v hw);refine q04 (wpAny_lookBehind g (by rw[j];exact pastItsLine_dict (MG l (by rw[Mm];omega))) ?_);exact q05 (h _ ⟨(c.2 _ (Ne.symm I.ne)).trans I.obj,e,I.ne⟩ c)
theorem Fb{R:Result->Shared->Prop}{vs:Na}{kw:List (Str×Value)}(X:K.In s.heap)(hm:PySem.W.makesIn K C=true)
  (hi:PySem.W.findIn K (.ref C) "__init__"=some (some (.ref f))) (hf:PySem.W.typeIn K (.ref f)=some (.type "function"))
  (h:codeAny d⁻¹ (A.under (.builtin "type.__call__" ⟨.ref C::vs,kw⟩)) (.call (.ref f) ⟨.ref q⁻¹::vs,kw⟩) (PySem.W.InitBack q⁻¹ R)
   {s with heap:=(s.heap.push PySem.W.emptyDict).push (PySem.W.instObj C s.heap.objs.size)}) :
  codeAny d⁻¹ A (.call (.ref C) ⟨vs,kw⟩) R s:=by
 obtain⟨hh,g,d,t,os⟩:=s;exact PySem.W.make_core (PySem.W.makes_of X hm) (PySem.W.looks_findIn X hi) (λa=>PySem.W.bind_fn X a hf) (.inl rfl) h
end
def cO(f:Str)(v:V):List (Str×V)->List (Str×V)
 | []=>[(f,v)]
 | (g,x)::r=>if g=f then(g,v)::r else(g,x)::cO f v r
theorem oU(f g:Str)(v:V):∀fs:List (Str×V),(cO f v fs).lookup g=if g=f then some v else fs.lookup g
 | []=>by
  show List.lookup g [(f,v)]=_
  by_cases h:g=f
  ·have hb:(g==f)=true:=beq_iff_eq.mpr h
   simp only[List.lookup,hb,q07 h]
  ·have hb:(g==f)=false:=beq_eq_false_iff_ne.mpr h
   simp only[List.lookup,hb,q06 h]
 | (k,x)::r=>by
  have ih:=oU f g v r;rw[show cO f v ((k,x)::r)=(if k=f then(k,v)::r else(k,x)::cO f v r) from rfl]
  by_cases hk:k=f
  ·rw[q07 hk]
   by_cases h:g=k
   ·have hb:(g==k)=true:=beq_iff_eq.mpr h
    simp only[List.lookup,hb,q07 (h.trans hk)]
   ·have hb:(g==k)=false:=beq_eq_false_iff_ne.mpr h
    simp only[List.lookup,hb,q06 (λe:g=f=>h (e.trans hk.symm))]
  ·rw[q06 hk]
   by_cases h:g=k
   ·have hb:(g==k)=true:=beq_iff_eq.mpr h
    simp only[List.lookup,hb,q06 (λe:g=f=>hk (h.symm.trans e))]
   ·have hb:(g==k)=false:=beq_eq_false_iff_ne.mpr h
    simp only[List.lookup,hb];exact ih
theorem og(f:Str)(v:V):∀fs:List (Str×V),f∈(cO f v fs).map (·.1)/\∀g,g∈fs.map (·.1)->g∈(cO f v fs).map (·.1)
 | []=>⟨by simp[cO],λg h=>by simp at h⟩
 | (k,x)::r=>by
  obtain⟨i1,i2⟩:=og f v r;rw[show cO f v ((k,x)::r)=(if k=f then(k,v)::r else(k,x)::cO f v r) from rfl]
  by_cases hk:k=f
  ·rw[q07 hk]
   subst hk;exact⟨by simp,λg h=>by simpa using h⟩
  ·rw[q06 hk]
   refine⟨?_,λg h=>?_⟩
   ·rw[MF]
    exact Mr _ i1
   ·rw[MF]at h ⊢
    rcases Mq.mp h with e | e
    ·exact Mq.mpr (.inl e)
    ·exact Mr _ (i2 g e)
theorem dB(f:Str)(v:V):∀fs:List (Str×V),(cO f v fs).length<=fs.length+1
 | []=>by simp[cO]
 | (k,x)::r=>by
  have ih:=dB f v r;rw[show cO f v ((k,x)::r)=(if k=f then(k,v)::r else(k,x)::cO f v r) from rfl]
  by_cases hk:k=f
  ·rw[q07 hk,Mm,Mm];omega
  ·rw[q06 hk,Mm,Mm];omega
theorem kr.some_of{v:V}{o:Option Value}(r:kr (some v) o):∃u,o=some u/\bi v u:=by
 cases o with
 |none=>exact(show False from r).elim
 |some u=>exact⟨u,rfl,r⟩
theorem kr.none_of(r:kr none o):o=none:=by
 cases o with
 |none=>rfl
 |some u=>exact(show False from r).elim
theorem Bv(r:bi v u):PySem.W.handedIn u=true:=by
 cases v with
 |non=>cases(show u=Value.none from r);rfl
 |bl b=>cases(show u=Value.bool b from r);rfl
 |int i=>obtain⟨t,e⟩:=(show ∃t,u=Value.int i t from r);cases e;rfl
 |str x=>obtain⟨t,e⟩:=(show ∃t,u=Value.str x t from r);cases e;rfl
 |byt b=>obtain⟨t,e⟩:=(show ∃t,u=Value.bytes b t from r);cases e;rfl
 |flt b=>obtain⟨t,e⟩:=(show ∃t,u=Value.float b t from r);cases e;rfl
 |ref a=>cases(show u=Value.ref a from r);rfl
 |ty n=>cases(show u=Value.type n from r);rfl
section
variable {P:Nf}{w:Ni}{H H':Hp}{h h':Heap}{a C dx:Addr}{fs fs':List (Str×V)}
theorem pQ(hok:kS P w H h)(e:H a=some (.ins C dx fs)):∃mA,zI h a dx C mA/\(∀f,kr (fs.lookup f) (mA f))/\PySem.Within mA (fs.map (·.1))/\fs.length<=1000/\H dx=some (.own a):=by
 obtain⟨d,z,ne,b,mA,n,r,q⟩:=(show bX P w H h a (.ins C dx fs) from hok a _ e);exact⟨mA,⟨b,n,ne⟩,r,q,z,d⟩
end
structure mG(K:M6)(C:Addr):Prop where
 pg:PySem.W.plainGet K C Str.empty=true
 hd:PySem.W.hasDictIn K C=true
 po:PySem.W.plainOver K C=true
 sa:PySem.W.findIn K (.ref C) "__setattr__"=some o⁻¹
theorem mG.get{K:M6}(c:mG K C)(f:Str):PySem.W.plainGet K C f=true:=c.pg
def aq(K:M6)(C:Addr)(f:Str):Prop:=PySem.W.findIn K (.ref C) f=some none
theorem aq.taker{K:M6}{f:Str}(n:aq K C f):PySem.W.takerIn K C f=some none:=by
 unfold PySem.W.takerIn;rw[show PySem.W.findIn K (.ref C) f=some none from n]
 rfl
structure cT(K:M6)(C:Addr)(m:Str)(f:Addr):Prop where
 at_:PySem.W.findIn K (.ref C) m=some (some (.ref f))
 fn:PySem.W.isFn K (.ref f)=true
 kp:PySem.W.keepIn K (.ref f)=true
section
variable {X:Cx}{pins:M7}{σ:St}{H:Hp}{s:M9}{a C dx:Addr}{fs:List (Str×V)}{f:Str}{v:V}{A:Nh}{E:M5}
theorem yv{Q:M5}(I:Inv X pins σ H s)(e:H a=some (.ins C dx fs))(c:mG X.K C)(n:aq X.K C f)(l:fs.lookup f=some v)
  (h:∀u s',Inv X pins σ H s'->bi v u->Q u s'):wpAny c⁻¹ A (getAttr (.ref a) f b) Q E s:=by
 obtain⟨j,O,r,_,_,_⟩:=pQ I.hok e;obtain⟨u,k,g⟩:=kr.some_of (v:=v) (o:=j f) (by rw[<- l];exact r f);exact Fx I.kIn O (c.get f) c.hd n k (Bv g) (h u _ (I.tok _) g)
theorem gG{pl:Sem Bool}{Q:Value×List Value->Shared->Prop}(I:Inv X pins σ H s)(e:H a=some (.ins C dx fs))(c:mG X.K C)(k:cT X.K C m g)(l:fs.lookup m=none)
  (h:Q (.ref g,[.ref a]) s):wpAny c⁻¹ A (getMethod (.ref a) m pl) Q E s:=by
 obtain⟨b,O,r,_,_,_⟩:=pQ I.hok e;have j:b m=none:=kr.none_of (by rw[<- l];exact r m);exact D2 I.kIn O (c.get m) k.at_ k.fn j h
theorem yD{Q:Unit->Shared->Prop}(I:Inv X pins σ H s)(e:H a=some (.ins C dx fs))(c:mG X.K C)(n:aq X.K C f)(hl:fs.length<1000)(ry:bi y u)
  (h:∀s',Inv X pins σ (aA H a (.ins C dx (cO f y fs))) s'->Q () s'):wpAny c⁻¹ A (setAttr (.ref a) f u) Q E s:=by
 obtain⟨l,O,r,k,_,m⟩:=pQ I.hok e;have v:(fs.map (·.1)).length<=sizeLine:=by rw[Mb,q0S];omega
 refine FN I.kIn O c.sa c.po n.taker c.hd k v λD j p=>h _ ?_;have hd:∃o,D.get? dx=some o:=let ⟨o,_,_,e',_⟩:=j.ns;⟨o,e'⟩
 refine I.write (x:=a) (e:=dx) (by rw[e];exact True.intro) (.inr m) (λb q B z=>(p.2 b B).trans z) hd ?_;refine⟨by rw[ao O.ne];exact m,?_,O.ne,j.obj,_,j.ns,λg=>?_,λg w=>?_⟩
 ·have:=dB f y fs;omega
 ·show kr ((cO f y fs).lookup g) (if g=f then some u else l g)
  rw[oU]
  by_cases q:g=f
  ·rw[q07 q,q07 q];exact ry
  ·rw[q06 q,q06 q];exact r g
 ·by_cases q:g=f
  ·rw[q];exact(og f y fs).1
  ·refine(og f y fs).2 g (k g λz=>w ?_)
   show(if g=f then some u else l g)=none;rw[q06 q];exact z
theorem Inv.made(I:Inv X pins σ H s):Inv X pins σ (aA (aA H s.heap.objs.size (.own q⁻¹)) q⁻¹ (.ins C s.heap.objs.size []))
  {s with heap:=(s.heap.push PySem.W.emptyDict).push (PySem.W.instObj C s.heap.objs.size)}:=by
 have c:(s.heap.push PySem.W.emptyDict).get? s.heap.objs.size=some PySem.W.emptyDict:=Mg s.heap rfl;have l:((s.heap.push PySem.W.emptyDict).push (PySem.W.instObj C s.heap.objs.size)).get? q⁻¹=some (PySem.W.instObj C s.heap.objs.size):=by
  have:=Mg (s.heap.push PySem.W.emptyDict) (o:=PySem.W.instObj C s.heap.objs.size) rfl
  rwa [Heap.size_push]at this
 have k:(s.heap.push PySem.W.emptyDict).Ns s.heap.objs.size (λ_=>none):=⟨PySem.W.emptyDict,#[],_,c,rfl,(λe j=>q0O j (by simp)),λ_=>rfl⟩;have m:=I.laid (a:=s.heap.objs.size) (o:=.own q⁻¹) (h':=s.heap.push PySem.W.emptyDict) (t':=s.toks) (λb u q=>Ma _ q) (My _) ⟨_,c⟩;refine m.laid (a:=s.heap.objs.size+1) (o:=.ins C s.heap.objs.size []) (t':=s.toks) (λb u q=>Ma _ q) (Nat.le_of_eq (Heap.size_push _ _)) ?_;have ne:s.heap.objs.size≠s.heap.objs.size+1:=Mu (MI _);refine⟨by rw[ao ne,ad],Mz _,ne,l,λ_=>none,(Heap.Ns1.of_empty k).at λo q=>Ma _ q,λ_=>True.intro,λy g=>q0O rfl g⟩
theorem Gu{prog:Nf}{env:Env}{f:Str}{pos:Pos}{Q:M5}(hb:attributeBase e f env (eval e env)=eval e env)
  (h:wpAny d⁻¹ A (eval e env) (λo s₁=>wpAny d⁻¹ A (getAttr o f true) Q E s₁) E s):wpAny d⁻¹ A (eval (.Attribute e f pos) env) Q E s:=
 Attribute_any_ h (by rw[arm_eval_Attribute,hb])
end
def F'(K:M6)(ta:TE)(f:Str):TE:=λσ H Q=>ta σ H λx H1=>∃a C dx fs v,x=.ref a/\H1 a=some (.ins C dx fs)/\mG K C/\aq K C f/\fs.lookup f=some v/\Q v H1
def HF(K:M6)(ta tv:TE)(f:Str):TS:=λD σ H=>tv σ H λy H1=>ta σ H1 λx H2=>∃a C dx fs,x=.ref a/\H2 a=some (.ins C dx fs)/\mG K C/\aq K C f/\fs.length<1000 /\
 D.nx σ (aA H2 a (.ins C dx (cO f y fs)))
section
variable {X:Cx}{o e value:Expr}{f:Str}{pos pos' tpos:Pos}{ta tv:TE}
theorem bM(he:PE X e ta)(hb:attributeBase e f X.env (eval e X.env)=eval e X.env):PE X (.Attribute e f pos) (F' X.K ta f):=by
 intro b s σ H Q I h;refine Gu hb (bV (he b s σ H _ I h) λu s1 ⟨x,r,p,g,a,C,dx,fs,v,k,m,c,n,l,q⟩=>?_);subst k;obtain rfl:u=Value.ref a:=g;exact yv p m c n l λu' s2 o j=>⟨v,r,o,j,q⟩
theorem dm(ha:PE X o ta)(hv:PE X value tv)(hs:swapsWith value (some (.Attribute o f pos')) pos.line X.env=pure false):PS X (.Assign [.Attribute o f pos'] value pos) (HF X.K ta tv f):=by
 intro b s σ H D I h;refine plainObj_wpAny_Assign_Attribute (bV (hv b s σ H _ I h) λu e ⟨y,B,w,g,q⟩=>bV (ha b e σ B _ w q) λov s2 ⟨x,H2,v,j,a,C,dx,fs,m,p,c,n,l,k⟩=>?_) hs;subst m;obtain rfl:ov=Value.ref a:=j;exact yD v p c n l g λs3 r=>⟨σ,_,r,k⟩
end
section
variable {X:Cx}{pins:M7}{σ:St}{H:Hp}{s:M9}{A:Nh}{E:M5}{Q:M5}{c:Value}{b:Bool}
inductive k9(K:M6)(H:Hp):V->Value->Prop where
 |non:k9 K H .non (.type "NoneType")
 |bl (x:Bool):k9 K H (.bl x) (.type "bool")
 |int (i:Int):k9 K H (.int i) (.type "int")
 |str (x:Str):k9 K H (.str x) (.type "str")
 |flt (x:UInt64):k9 K H (.flt x) (.type "float")
 |lst {a:Addr} {xs:List V} (e:H a=some (.lst xs)):k9 K H (.ref a) (.type "list")
 |frz {a:Addr} {o:Obj} {xs:List V} (e:H a=some (.frz o (.lst xs))):k9 K H (.ref a) (.type "list")
 |tup {a:Addr} {xs:List V} (e:H a=some (.tup xs)):k9 K H (.ref a) (.type "tuple")
 |dK {a:Addr} {kvs:List (c8×V)} (e:H a=some (.dK kvs)):k9 K H (.ref a) (.type "dict")
 |dT {a:Addr} {kvs:List (List c8×V)} (e:H a=some (.dT kvs)):k9 K H (.ref a) (.type "dict")
 |ins {a C dx:Addr} {fs:List (Str×V)} (e:H a=some (.ins C dx fs)) (cl:mG K C) (ha:PySem.W.findIn K (.ref C) "__class__"=some (some f⁻¹))
   (hn:PySem.W.specialIn K f⁻¹ "__get__"=some (some (.builtin "getset_descriptor.__get__"))) (htk:PySem.W.takesIn K f⁻¹=some true)
   (hm:PySem.W.mroIn K C (.type "object")=some true):k9 K H (.ref a) (.ref C)
theorem Be{t:Value}(I:Inv X pins σ H s)(rx:bi x u)(ty:k9 X.K H x t)(e:PySem.W.kitOne X.K t c=some b)(h:∀tk,Q (.bool b) {s with toks:=tk}) :
  wpAny c⁻¹ A (call (.builtin "isinstance") [u,c]) Q E s:=by
 cases ty with
 |non=>cases(show u=Value.none from rx);exact PySem.W.kia_one PySem.W.kitx_none I.kIn True.intro e (λz=>nomatch z) h
 |bl y=>cases(show u=Value.bool y from rx);exact PySem.W.kia_one PySem.W.kitx_bool I.kIn True.intro e (λz=>nomatch z) h
 |int i=>obtain⟨t,q⟩:=(show ∃t,u=Value.int i t from rx);cases q;exact PySem.W.kia_one PySem.W.kitx_int I.kIn True.intro e (λz=>nomatch z) h
 |str y=>obtain⟨t,q⟩:=(show ∃t,u=Value.str y t from rx);cases q;exact PySem.W.kia_one PySem.W.kitx_str I.kIn True.intro e (λz=>nomatch z) h
 |flt y=>obtain⟨t,q⟩:=(show ∃t,u=Value.float y t from rx);cases q;exact PySem.W.kia_one PySem.W.kitx_float I.kIn True.intro e (λz=>nomatch z) h
 | @lst a g ea=>
  cases(show u=Value.ref a from rx);obtain⟨_,_,n,_,h1⟩:=(show bX X.prog X.w H s.heap a (.lst g) from I.hok a _ ea);exact PySem.W.kia_one PySem.W.kitx_list I.kIn ⟨_,h1,rfl⟩ e (λz=>nomatch z) h
 | @frz a ob g ea=>
  cases(show u=Value.ref a from rx);obtain⟨_,_,_,n,_,h1⟩:=(show bX X.prog X.w H s.heap a (.frz ob (.lst g)) from I.hok a _ ea);exact PySem.W.kia_one PySem.W.kitx_list I.kIn ⟨_,h1,rfl⟩ e (λz=>nomatch z) h
 | @tup a g ea=>
  cases(show u=Value.ref a from rx);obtain⟨_,_,_,p⟩:=(show bX X.prog X.w H s.heap a (.tup g) from I.hok a _ ea);obtain⟨o,h1,h2,_⟩:=p;exact PySem.W.kia_one PySem.W.kitx_tuple I.kIn ⟨o,h1,h2⟩ e (λz=>nomatch z) h
 | @dK a kvs ea=>
  cases(show u=Value.ref a from rx);obtain⟨_,_,vs,_,p⟩:=(show bX X.prog X.w H s.heap a (.dK kvs) from I.hok a _ ea);obtain⟨o,j,k,h1,h2,_⟩:=p;exact PySem.W.kia_one PySem.W.kitx_dict I.kIn ⟨o,h1,h2.1⟩ e (λz=>nomatch z) h
 | @dT a kvs ea=>
  cases(show u=Value.ref a from rx);obtain⟨_,_,g,_,o,j,k,h1,h2,_⟩:=(show bX X.prog X.w H s.heap a (.dT kvs) from I.hok a _ ea);exact PySem.W.kia_one PySem.W.kitx_dict I.kIn ⟨o,h1,h2.1⟩ e (λz=>nomatch z) h
 | @ins a C dx fs ea cl ha hn htk hm=>
  cases(show u=Value.ref a from rx);obtain⟨mA,O,_⟩:=pQ I.hok ea;obtain⟨od,J,_⟩:=O.look;exact PySem.W.kia_one (PySem.W.kitx_own (cl.get _) cl.hd ha hn htk hm) I.kIn J e (λz=>nomatch z) h
end
structure dh(k:Nat)(A:Nh):Prop where
 hd:A.handled=none
 dp:A.depth+3*k+5<recursionLimit
 un:A.units+16*k+200<cLine
theorem dh.mono{j:Nat}(r:dh k A)(h:j<=k):dh j A:=⟨r.hd,by have:=r.dp;omega,by have:=r.un;omega⟩
theorem dh.deeper{k:Nat}{A:Nh}(r:dh (k+1) A)(env:Env):dh k (A.deeper env):=
 ⟨r.hd,by have:=r.dp;show A.depth+1+3*k+5<_;omega,by have:=r.un;show A.units+3+16*k+200<_;omega⟩
theorem zd{A:Nh}{C:Addr}{us:Na}{kw:List (Str×Value)}:(A.under (.builtin "type.__call__" ⟨.ref C::us,kw⟩)).depth=A.depth+1:=by
 first | rfl | simp[Around.under,Code.weight,Code.isCreation,Code.isGuard,Code.isCaller,Code.frames,Code.isFrame,guardIds]
theorem y_{A:Nh}{C:Addr}{us:Na}{kw:List (Str×Value)}:(A.under (.builtin "type.__call__" ⟨.ref C::us,kw⟩)).units=A.units+1:=by
 first | rfl | simp[Around.under,Code.cUnits,Code.frames,Code.isFrame]
theorem dh.make{k:Nat}{A:Nh}(r:dh (k+1) A)(C:Addr)(us:Na)(kw:List (Str×Value)):dh k (A.under (.builtin "type.__call__" ⟨.ref C::us,kw⟩)):=
 ⟨r.hd,by have:=r.dp;rw[zd];omega,by have:=r.un;rw[y_];omega⟩
theorem dh.depth(r:dh k A):A.depth<recursionLimit:=by have:=r.dp;omega
theorem dh.units(r:dh k A):A.units+64<cLine:=by have:=r.un;omega
def sS:TA:=λ_ H Q=>Q [] H
def lO(ta:TE)(tr:TA):TA:=λσ H Q=>ta σ H λx H1=>tr σ H1 λxs H2=>Q (x::xs) H2
section
variable {X:Cx}{e:Expr}{es:Nk}{te:TE}{t:TA}{pos:Pos}
theorem ac:PA X [] sS:=λ_ _ _ _ H Q I h=>Calls.spliced_nil ⟨[],H,I,.nil,h⟩
theorem aa(ha:PE X e te)(hr:PA X es t)(hs:autoParam (starEach (e::es) X.env=(false,eval e X.env)::starEach es X.env) zz0._auto_1):PA X (e::es) (lO te t):=by
 intro b a s σ H Q I h;rw[hs];show wpAny _ _ (spliced ((false,eval e X.env)::backTo b (starEach es X.env))) _ _ s;refine Calls.spliced_cons (bV (ha a s σ H _ I h) λu g ⟨x,q,o,k,m⟩=>?_);exact bV (hr b a g σ q _ o m) λus s2 ⟨c,p,n,j,l⟩=>⟨x::c,p,n,.cons k j,l⟩
def FD(t:TA):TE:=λσ H Q=>t σ H λxs H1=>xs.length<=sizeLine/\∀p,H1 p=none->Q (.ref p) (aA H1 p (.tup xs))
def DR(t:TA):TE:=λσ H Q=>t σ H λxs H1=>xs.length<=sizeLine/\∀p,H1 p=none->Q (.ref p) (aA H1 p (.lst xs))
theorem aN{x1}(h:PA X es t):PE X (.Tuple es x1 pos) (FD t):=by
 intro a s σ H Q I hq;refine wpAny_Tuple_spliced (bV (h pos a s σ H _ I hq) λus c ⟨k,j,g,r,z,q⟩=>⟨by rw[<- r.length];exact z,?_⟩);have l:j c.heap.objs.size=none:=g.hok.fresh (My _);refine⟨.ref c.heap.objs.size,aA j c.heap.objs.size (.tup k),g.laid (t':=c.toks) (λb u e=>Ma _ e) (My _) ?_,rfl,q _ l⟩;exact⟨z,us,r,⟨_,Mg _ rfl,rfl,_,rfl⟩⟩
theorem bA(h:PA X es t):PE X (.List es pos) (DR t):=by
 intro a s σ H Q I hq;refine wpAny_List_spliced (bV (h pos a s σ H _ I hq) λus c ⟨k,j,g,r,z,q⟩=>⟨by rw[<- r.length];exact z,?_⟩);have l:j c.heap.objs.size=none:=g.hok.fresh (My _);refine⟨.ref c.heap.objs.size,aA j c.heap.objs.size (.lst k),g.laid (t':=c.toks) (λb u e=>Ma _ e) (My _) ?_,rfl,q _ l⟩;exact⟨z,us,0,r,Mg _ rfl⟩
end
abbrev Sp:=List V->Hp->VK->XK->Prop
abbrev kT:=List Env->Hp->Shared->XK->Value->Shared->Prop
structure wq(P:Nf)(w:Ni)(K:M6)(mg:Nc)(base:Heap)(A:Nh)(outer:List Env)(s:M9)(H:Hp):Prop where
 frames:A.frames=some outer
 mod:Mod K mg base
 bs:∀b o,base.get? b=some o->s.heap.get? b=some o/\H b=none
 bsz:base.objs.size<=s.heap.objs.size
 funs:s.heap.FunFrames base outer
 frf:∀b∈nI outer,H b=none
 hok:kS P w H s.heap
 bare:AllBare s.gens
def CE(outer:List Env)(P:Nf)(w:Ni)(H:Hp)(s:M9)(Q:VK)(u:Value)(s':M9):Prop:=
 ∃v H',s'.os=s.os/\AllBare s'.gens/\Un (nI outer) [] H H' s.heap s'.heap/\kS P w H' s'.heap/\bi v u/\Q v H'
def CR(CX:kT)(outer:List Env)(P:Nf)(w:Ni)(H:Hp)(s:M9)(Q:VK)(E:XK)(r:Result)(s':M9):Prop:=
 match r with
 | .ok (.ret u)=>CE outer P w H s Q u s'
 | .ok _=>False
 | .error e=>CX outer H s E e s'
structure aT(P:Nf)(w:Ni)(K:M6)(mg:Nc)(base:Heap)(CX:kT)(k:Nat)(f:Addr)(fd:Nd)(ps:Ng)(sp:Sp):Prop where
 len:∀vs H Q E,sp vs H Q E->vs.length=ps.length
 run:∀(A:Nh) (outer:List Env) (s:M9) (H:Hp) (args:Args) (us:Na) (vs:List V) (Q:VK) (E:XK),dh k A->wq P w K mg base A outer s H->BindsTo s fd args (ps.zip us)->bd vs us->sp vs H Q E ->
  codeAny (model P w) A (.call (.ref f) args) (CR CX outer P w H s Q E) s
theorem aT.mono{K:M6}{mg:Nc}{base:Heap}{CX:kT}{k:Nat}{f:Addr}{ps:Ng}{sp:Sp}(F:aT P w K mg base CX j f fd ps sp)(h:j<=k) :
  aT P w K mg base CX k f fd ps sp:=⟨F.len,λA outer s H args us vs Q E hr=>F.run A outer s H args us vs Q E (hr.mono h)⟩
theorem wq.make{K:M6}{mg:Nc}{base:Heap}{outer:List Env}(e:wq P w K mg base A outer s H)(C:Addr)(us:Na)(kw:List (Str×Value)) :
  wq P w K mg base (A.under (.builtin "type.__call__" ⟨.ref C::us,kw⟩)) outer s H:=⟨by first | exact e.frames | (simpa[Around.under,Code.envs,Code.isFrame,pushEnvs]using e.frames),e.mod,e.bs,e.bsz,e.funs,e.frf,e.hok,e.bare⟩
section
variable {X:Cx}{pins:M7}{σ:St}{H:Hp}{s s':M9}
theorem Inv.env0(I:Inv X pins σ H s):wq X.prog X.w X.K X.mg X.base X.A X.stack s H:=
 ⟨I.ok.frames,I.ok.mod,I.bs,MG I.ok.bsz I.sz,I.stack,I.stkFree,I.hok,I.bare⟩
theorem Inv.after(I:Inv X pins σ H s)(h:CE X.stack X.prog X.w H s Q u s'):EP X pins σ Q u s':=by
 obtain⟨v,k,os,a,un,e,r,q⟩:=h;obtain⟨j,g,d,t,c⟩:=s';obtain rfl:c=s.os:=os;exact⟨v,k,I.call (h':=j) (g':=g) (d':=d) (t':=t) (ch:=[]) un e a (λb z=>q0O z (by simp)),r,q⟩
end
def oQ(sp:Sp)(dvs:List V)(E:XK)(t:TA):TE:=λσ H Q=>t σ H λvs H1=>sp (vs++dvs) H1 Q E
def tY(C:Addr)(m:Str)(sp:Sp)(dvs:List V)(E:XK)(ta:TE)(t:TA):TE:=λσ H Q=>ta σ H λx H1=>∃a dx fs,x=.ref a/\H1 a=some (.ins C dx fs)/\fs.lookup m=none /\
 t σ H1 λvs H2=>sp (x::(vs++dvs)) H2 Q E
def As(C:Addr)(sp:Sp)(dvs:List V)(E:XK)(t:TA):TE:=λσ H Q=>t σ H λvs H1=>∀x dx,H1 x=none->H1 dx=none->dx≠x ->
 sp (.ref x::(vs++dvs)) (aA (aA H1 dx (.own x)) x (.ins C dx [])) (λv H2=>v=.non/\Q (.ref x) H2) E
def bR(K:M6)(fd:Nd)(ps:Ng)(ds:Na):Prop:=
 ∀(s:M9) (us:Na),K.In s.heap->(us++ds).length=ps.length->BindsTo s fd ⟨us,[]⟩ (ps.zip (us++ds))
theorem bR.all{K:M6}{ps:Ng}(h:∀us:List Value,us.length=ps.length->bindArgs fd ⟨us,[]⟩=pure (ps.zip us)):bR K fd ps []:=λs us _ hl=>by
 rw[MJ]at hl ⊢;exact .of_eq (h us hl)
def dz(CX:kT)(X:Cx)(E:XK):Prop:=∀(pins:M7) (σ:St) (H:Hp) (s:M9) (e:Value) (s':M9),Inv X pins σ H s->CX X.stack H s E e s'->X.xe e s'
section
variable {X:Cx}{CX:kT}{k:Nat}{f C:Addr}{fd:Nd}{ps:Ng}{sp:Sp}{dvs:List V}{ds:Na}{E:XK}{x m:Str}{p pos apos:Pos}{e o:Expr}{es:Nk}{ta:TE}{t:TA}
theorem nM{pins:M7}{σ:St}(F:aT X.prog X.w X.K X.mg X.base CX k f fd ps sp)(hr:dh k X.A)(hb:bR X.K fd ps ds)(hd:bd dvs ds)(hx:dz CX X E)
  (I:Inv X pins σ H s) (r:bd vs us) (h:sp (vs++dvs) H Q E):wpAny c⁻¹ X.A (call (.ref f) us) (EP X pins σ Q) X.xe s:=by
 have b:bd (vs++dvs) (us++ds):=r.append hd;have g:(us++ds).length=ps.length:=by rw[<- b.length];exact F.len _ _ _ _ h
 refine wpAny_call (codeAny_mono (F.run X.A X.stack s H ⟨us,[]⟩ (us++ds) (vs++dvs) Q E hr I.env0 (hb s us I.kIn g) b h) λr c a=>?_);cases r with
 |error e=>exact hx pins σ H s e c I a
 |ok fl=>
  cases fl with
  |ret u=>exact I.after a
  |next=>exact False.elim a
  |brk=>exact False.elim a
  |cont=>exact False.elim a
theorem Gm(F:aT X.prog X.w X.K X.mg X.base CX k f fd ps sp)(hr:dh k X.A)(hg:Gl X x)(hm:X.mg x=some (.ref f))(hk:PySem.W.keepIn X.K (.ref f)=true)(hb:bR X.K fd ps ds)(hd:bd dvs ds)(hx:dz CX X E)
  (ha:PA X (e::es) t) (hdb:autoParam j⁻¹ zz1._auto_1) (he:autoParam (starEach (e::es) X.env=(false,eval e X.env)::starEach es X.env) zz0._auto_1) (hpl:autoParam h⁻¹ zz0._auto_1) :
  PE X (.Call (.Name x p) (e::es) [] pos) (oQ sp dvs E t):=by
 intro a s σ H Q I h;refine wpAny_Call_Name_kw (kK I hg hm ?_ hdb);refine PySem.W.callWith_K (h₀:=X.base) I.ok.mod.kin hk (bV (ha pos a s σ H _ I h) λus s1 ⟨vs,H1,b,r,q⟩=>⟨b.kIn,?_⟩) he hpl;exact nM F hr hb hd hx b r q
theorem F7{pl:Sem Bool}(he:PE X o ta)(c:mG X.K C)(hm:cT X.K C m f)(F:aT X.prog X.w X.K X.mg X.base CX k f fd ps sp)(hr:dh k X.A)(hb:bR X.K fd ps ds)(hd:bd dvs ds)(hx:dz CX X E)(ha:PA X (e::es) t)
  (hst:autoParam (starEach (e::es) X.env=(false,eval e X.env)::starEach es X.env) zz0._auto_1) (hpl:autoParam h⁻¹ zz0._auto_1)
  (ht:autoParam (eval (.Call (.Attribute o m apos) (e::es) [] pos) X.env=(do
   let ov <- eval o X.env
   standAt apos.atName
   let (f,first) <- holding [ov] (getMethod ov m pl)
   callWith pos f first (backTo pos (starEach (e::es) X.env)) (backToKw pos (keywordEach [] X.env)))) zz0._auto_1) :
  PE X (.Call (.Attribute o m apos) (e::es) [] pos) (tY C m sp dvs E ta t):=by
 intro b s σ H Q I h;refine PySem.W.methodCall_KW (pl:=pl) (bV (he b s σ H _ I h) λu n ⟨x,B,j,p,a,dx,fs,w,y,l,q⟩=>?_) ht;subst w;obtain rfl:u=Value.ref a:=p;refine gG j y c hm l ?_;refine PySem.W.callWith_K (first:=[.ref a]) (h₀:=X.base) I.ok.mod.kin hm.kp (bV (ha pos b n σ B _ j q) λus s2 ⟨vs,H2,g,r,v⟩=>⟨g.kIn,?_⟩) hst hpl;exact nM (us:=.ref a::us) (vs:=.ref a::vs) F hr hb hd hx g (.cons rfl r) v
theorem C_{pl:Sem Bool}(he:PE X o ta)(c:mG X.K C)(hm:cT X.K C m f)(F:aT X.prog X.w X.K X.mg X.base CX k f fd ps sp)(hr:dh k X.A)(hb:bR X.K fd ps ds)(hd:bd dvs ds)(hx:dz CX X E)
  (ht:autoParam (eval (.Call (.Attribute o m apos) [] [] pos) X.env=(do
   let ov <- eval o X.env
   standAt apos.atName
   let (f,first) <- holding [ov] (getMethod ov m pl)
   callWith pos f first (backTo pos (starEach [] X.env)) (backToKw pos (keywordEach [] X.env)))) zz0._auto_1) :
  PE X (.Call (.Attribute o m apos) [] [] pos) (tY C m sp dvs E ta sS):=by
 intro b s σ H Q I h;refine PySem.W.methodCall_KW (pl:=pl) (bV (he b s σ H _ I h) λu s1 ⟨x,H1,e,g,a,dx,fs,j,n,l,q⟩=>?_) ht;subst j;obtain rfl:u=Value.ref a:=g;refine gG e n c hm l ?_;exact PySem.W.callWith_K0 (first:=[.ref a]) e.kIn hm.kp (nM (us:=[.ref a]) (vs:=[.ref a]) F hr hb hd hx e (.cons rfl .nil) q)
structure Mk(K:M6)(C f:Addr):Prop where
 makes:PySem.W.makesIn K C=true
 init:PySem.W.findIn K (.ref C) "__init__"=some (some (.ref f))
 fn:PySem.W.isFn K (.ref f)=true
 kp:PySem.W.keepIn K (.ref C)=true
theorem EE{pins:M7}{σ:St}{Q:VK}(M:Mk X.K C f)(F:aT X.prog X.w X.K X.mg X.base CX k f fd ps sp)(hr:dh (k+1) X.A)(hb:bR X.K fd ps ds)(hd:bd dvs ds)
  (hx:dz CX X E) (I:Inv X pins σ H s) (r:bd vs us)
  (h:∀x dx,H x=none->H dx=none->dx≠x->sp (.ref x::(vs++dvs)) (aA (aA H dx (.own x)) x (.ins C dx [])) (λv H2=>v=.non/\Q (.ref x) H2) E) :
  wpAny c⁻¹ X.A (call (.ref C) us) (EP X pins σ Q) X.xe s:=by
 have g:=h q⁻¹ s.heap.objs.size (I.hok.fresh (Nat.le_succ _)) (I.hok.fresh (My _)) (Mu (MI _));have b:=Inv.made (C:=C) I;have c:bd (V.ref q⁻¹::(vs++dvs)) (Value.ref q⁻¹::(us++ds)):=.cons rfl (r.append hd);have n:(Value.ref q⁻¹::us++ds).length=ps.length:=by
  have e:=c.length;rw[F.len _ _ _ _ g]at e;exact e.symm
 refine wpAny_call (Fb (f:=f) I.kIn M.makes M.init (beq_iff_eq.mp M.fn) (codeAny_mono (F.run _ X.stack _ _ ⟨Value.ref q⁻¹::us,[]⟩ (Value.ref q⁻¹::(us++ds)) _ _ E (hr.make C us [])
  (b.env0.make C us []) (hb _ (Value.ref q⁻¹::us) b.kIn n) c g) λr j a=>?_))
 cases r with
 |error e=>exact hx pins σ _ _ e j b a
 |ok fl=>
  cases fl with
  |ret u=>
   obtain⟨v,q,p,l,o,m⟩:=b.after a;subst o;exact⟨l,⟨V.ref q⁻¹,q,p,rfl,m⟩⟩
  |next=>exact False.elim a
  |brk=>exact False.elim a
  |cont=>exact False.elim a
theorem FT(M:Mk X.K C f)(F:aT X.prog X.w X.K X.mg X.base CX k f fd ps sp)(hr:dh (k+1) X.A)(hg:Gl X x)(hm:X.mg x=some (.ref C))(hb:bR X.K fd ps ds)(hd:bd dvs ds)(hx:dz CX X E)
  (ha:PA X (e::es) t) (hdb:autoParam j⁻¹ zz1._auto_1) (he:autoParam (starEach (e::es) X.env=(false,eval e X.env)::starEach es X.env) zz0._auto_1) (hpl:autoParam h⁻¹ zz0._auto_1) :
  PE X (.Call (.Name x p) (e::es) [] pos) (As C sp dvs E t):=by
 intro a s σ H Q I h;refine wpAny_Call_Name_kw (kK I hg hm ?_ hdb);refine PySem.W.callWith_K (h₀:=X.base) I.ok.mod.kin M.kp (bV (ha pos a s σ H _ I h) λus s1 ⟨vs,H1,b,r,q⟩=>⟨b.kIn,?_⟩) he hpl;exact EE M F hr hb hd hx b r q
end
section
variable {X:Cx}{CX:kT}{k:Nat}{f C:Addr}{fd:Nd}{ps ks:Ng}{sp:Sp}{E:XK}{x m:Str}{p pos apos kpos:Pos}{e o:Expr}{es:Nk}{kws:List Keyword}{te ta:TE}{t tk:TA}{nm:Option Str}
variable {g:List Value->List Value->List Value}{gV:List V->List V->List V}
end
structure ay(N P:Ng)(sc:Scope):Prop where
 kind:sc.kind=.function
 co:sc.isCoroutine=false
 gen:sc.isGenerator=false
 nd:N.Nodup
 pre:N.take P.length=P
 par:∀x∈P,sc.names.lookup x=some .local\/sc.names.lookup x=some .cell
 nofree:∀y∈sc.names,y.2≠.free
theorem tH{kindOf:Str->Option NameKind}{x:Str}:∀{binds:List (Str×Value)} {m:Nc},(∀v,(x,v)∉binds)->bindL kindOf binds m x=m x
 | [],_,_=>rfl
 | (n,v)::r,m,h=>by
  unfold bindL;rw[tH λw hw=>h w (Mr _ hw)]
  split
  ·have:x≠n:=by rintro rfl;exact h v q0B
   simp[this]
  ·rfl
theorem uh{kindOf:Str->Option NameKind}{x:Str}:∀{binds:List (Str×Value)} {m:Nc},(∀v,(x,v)∉binds)->bindC kindOf binds m x=m x
 | [],_,_=>rfl
 | (n,v)::r,m,h=>by
  unfold bindC;rw[uh λw hw=>h w (Mr _ hw)]
  split
  ·rfl
  ·have:x≠n:=by rintro rfl;exact h v q0B
   simp[this]
theorem tU{kindOf:Str->Option NameKind}{x:Str}{v:Value}:∀{P:Ng} {vs:Na} {i:Nat} {m:Nc},P.Nodup->P[i]?=some x->vs[i]?=some v->kindOf x=some .local ->
  bindL kindOf (P.zip vs) m x=some v
 | [],_,_,_,_,h,_,_=>by simp at h
 |_::_,[],_,_,_,_,h,_=>by simp at h
 |p::P,w::vs,0,m,nd,h1,h2,hk=>by
  simp at h1 h2;subst h1;subst h2
  show bindL kindOf ((p,w)::P.zip vs) m p=_;unfold bindL;rw[tH λv hv=>(List.nodup_cons.mp nd).1 (List.of_mem_zip hv).1,q07 hk];simp
 |p::P,w::vs,i+1,m,nd,h1,h2,hk=>by
  show bindL kindOf ((p,w)::P.zip vs) m x=_;unfold bindL;exact tU (i:=i) (List.nodup_cons.mp nd).2 (by simpa using h1) (by simpa using h2) hk
theorem tW{kindOf:Str->Option NameKind}{x:Str}{v:Value}:∀{P:Ng} {vs:Na} {i:Nat} {m:Nc},P.Nodup->P[i]?=some x->vs[i]?=some v->kindOf x≠some .local ->
  bindC kindOf (P.zip vs) m x=some v
 | [],_,_,_,_,h,_,_=>by simp at h
 |_::_,[],_,_,_,_,h,_=>by simp at h
 |p::P,w::vs,0,m,nd,h1,h2,hk=>by
  simp at h1 h2;subst h1;subst h2
  show bindC kindOf ((p,w)::P.zip vs) m p=_;unfold bindC;rw[uh λv hv=>(List.nodup_cons.mp nd).1 (List.of_mem_zip hv).1,q06 hk];simp
 |p::P,w::vs,i+1,m,nd,h1,h2,hk=>by
  show bindC kindOf ((p,w)::P.zip vs) m x=_;unfold bindC;exact tW (i:=i) (List.nodup_cons.mp nd).2 (by simpa using h1) (by simpa using h2) hk
def start(N:Ng)(vs:List V):St:=vs.map some++List.replicate (N.length-vs.length) none
def gO(CX:kT)(P:Nf)(w:Ni)(K:M6)(mg:Nc)(base:Heap)(N:Ng)(qual:Str)(scope:Scope)(f:Addr)(cd:Value)(A:Nh)(outer:List Env)(s:M9)(H:Hp)(E:XK):Cx where
 prog:=P
 w:=w
 K:=K
 mg:=mg
 base:=base
 A:=A.deeper (envOfC qual scope s.heap.objs.size f cd)
 N:=N
 s₀:=s
 H₀:=H
 env:=envOfC qual scope s.heap.objs.size f cd
 outer:=outer
 stack:=envOfC qual scope s.heap.objs.size f cd::outer
 ex:=[]
 calm:=true
 fn:=λ_=>true
 pn:=[]
 xe:=λe s'=>wpAny (model P w) (A.deeper (envOfC qual scope s.heap.objs.size f cd)) (leaving (envOfC qual scope s.heap.objs.size f cd) e) (λ_ s''=>CX outer H s E e s'') (λe' s''=>CX outer H s E e' s'') s'
theorem wS{sc:Scope}(h:sc.names.lookup x=some .cell):∃c,(cellsFrom n sc.names []).lookup x=some c:=by
 have q:=PySem.W.cellsFrom_some sc.names n [] (.inl h);exact Option.isSome_iff_exists.mp q
theorem Bm{CX:kT}{K:M6}{mg:Nc}{base:Heap}{ps:Ng}{qual:Str}{scope:Scope}{f:Addr}{cd:Value}{A:Nh}{outer:List Env}{s1:M9}{vs:List V}
  (S:ay N ps scope) (hd:A.handled=none) (e0:wq P w K mg base A outer s H) (hl:vs.length=ps.length) (r:bd vs us)
  (x:InCallC s s.heap.objs.size (bindL (envOfC qual scope s.heap.objs.size f cd).kindOf (ps.zip us) λ_=>none) (cellsFrom q⁻¹ scope.names []) (bindC (envOfC qual scope s.heap.objs.size f cd).kindOf (ps.zip us) λ_=>none) s1) :
  Inv (gO CX P w K mg base N qual scope f cd A outer s H E) [] (start N vs) H s1:=by
 have hpl:ps.length<=N.length:=by have:=q0P List.length S.pre;rw[MN]at this;omega
 obtain⟨h1,tk,rfl,B⟩:=x.done;have g:∀b:Addr,b∉(gO CX P w K mg base N qual scope f cd A outer s H E).ex:=λb z=>q0O (show b∈([]:List Addr) from z) (by simp);refine⟨⟨e0.mod,S.kind,rfl,rfl,My _,λy z c h1 h2=>?_,λy hy=>?_,λy c _ h=>?_,λ_=>hd,Around.frames_deeper e0.frames,.inr ⟨rfl,rfl⟩,λb z=>q0O z (g b),e0.bs,e0.bsz,λb _ _=>g b,λb z=>q0O z (g b),e0.funs,e0.frf⟩,
  rfl,e0.bare,Un.kept B,⟨_,x.toInCall.ns,λi y v h1 h2 h3=>?_⟩,λy c h=>⟨_,x.cell y c h⟩,e0.hok.fresh (My _),λy c h=>?_,λp l=>q0O (show p∈([]:List (Addr×Obj)) from l) (by simp),e0.hok.kept B,?_⟩
 ·exact name_of_addr x.apart (PySem.mem_of_lookup h1) (PySem.mem_of_lookup h2)
 ·have hy:scope.names.lookup y=some .cell\/scope.names.lookup y=some .free:=hy
  rcases hy with hy | hy
  ·exact wS hy
  ·exact q0O rfl (S.nofree _ (PySem.mem_of_lookup hy))
 ·exact q0N (x.above y c (PySem.mem_of_lookup h))
 ·have m:i<vs.length:=by
   unfold start at h2
   by_cases m:i<vs.length
   ·exact m
   ·rw[Mv (by simpa using m)]at h2
    rw[List.getElem?_replicate]at h2
    split at h2<;>cases h2
  have D:vs[i]?=some v:=by
   unfold start at h2;rw[Mw (by simpa using m),Md]at h2;cases e:vs[i]? with
   |none=>rw[e]at h2;cases h2
   |some a=>rw[e]at h2;cases h2;rfl
  obtain⟨u,o,C⟩:=r.get D;have l:ps[i]?=some y:=by
   rw[<- S.pre,List.getElem?_take_of_lt ⋯];exact h1
  have j:ps.Nodup:=by rw[<- S.pre];exact S.nd.sublist (List.take_sublist _ _)
  refine⟨u,C,?_⟩;rcases S.par y (Me l) with k | k
  ·exact .inl ⟨k,tU j l o k⟩
  ·obtain⟨c,e⟩:=wS (n:=s.heap.objs.size+1) k
   refine .inr ⟨.inl k,c,e,?_⟩;have q:=x.cell y c e;rw[tW j l o (by show scope.names.lookup y≠_;rw[k];decide)]at q;exact q
 ·exact e0.hok.fresh (q0N (x.above y c (PySem.mem_of_lookup h)))
 ·unfold start
  show _=N.length;rw[Mx,Mb,List.length_replicate];omega
theorem GB{CX:kT}{K:M6}{mg:Nc}{base:Heap}{f:Addr}{name qual:Str}{params:Arguments}{body:List Stmt}{scope:Scope}{dV kV doc pm cdv ct oc:Value}{an od:Nj}
  {osl:Array (Option Value)}{ps:Ng} {sp:Sp} (lk:K.lookup f=some ⟨oc,od,.func (PySem.W.fnOf name qual params body scope dV kV doc pm an cdv ct),osl⟩) (hcd:PySem.W.codeIn K cdv qual=true) (S:ay N ps scope)
  (len:∀vs H Q E,sp vs H Q E->vs.length=ps.length)
  (hbody:∀(A:Nh) (outer:List Env) (s:M9) (H:Hp) (vs:List V) (Q:VK) (E:XK),dh k (A.deeper (envOfC qual scope s.heap.objs.size f cdv))->sp vs H Q E ->
   ∃t,wz (gO CX P w K mg base N qual scope f cdv A outer s H E) body t/\t {nx:=λ_ H'=>Q .non H',rt:=Q} (start N vs) H) :
  aT P w K mg base CX (k+1) f (PySem.W.fnOf name qual params body scope dV kV doc pm an cdv ct) ps sp:=by
 refine⟨len,λA outer s H args G vs Q E hr l U r g=>?_⟩;have R:=len _ _ _ _ g;have D:K.In s.heap:=l.mod.kin.keeps λb o e=>(l.bs b o e).1;have B:s.heap.NoLimit:=l.mod.nolimit.keeps λb o e=>(l.bs b o e).1;have a:∀y∈ps.zip G,scope.names.lookup y.1=some .local\/(scope.names.lookup y.1=some .cell/\((cellsFrom q⁻¹ scope.names []).lookup y.1).isSome=true):=λ⟨n,v⟩ L=>by
  rcases S.par n (List.of_mem_zip L).1 with q | q
  ·exact .inl q
  ·exact .inr ⟨q,PySem.W.cellsFrom_some _ _ _ (.inl q)⟩
 refine codeAny_call_function hr.depth (D _ _ lk) rfl S.co S.gen rfl (PySem.W.codeRec_of D hcd) (U _ _ _ _ ?_);refine wpAny_newFunctionEnv_cells S.kind a λenv T C x=>?_;subst T;refine⟨B.keeps x.toInCall.keep,codeAny_func ?_⟩;obtain⟨t,M,O⟩:=hbody A outer s H vs Q E (hr.deeper _) g;have I:Inv (gO CX P w K mg base N qual scope f cdv A outer s H E) [] (start N vs) H C:=Bm S hr.hd l R r x;refine q0T (M [] C (start N vs) H _ I O) (λfl m c=>?_) λe m c=>c;have j:∀{σ':St} {H':Hp} {v:V} {u:Value},Inv (gO CX P w K mg base N qual scope f cdv A outer s H E) [] σ' H' m->bi v u->Q v H'->CE outer P w H s Q u m:=
  fun{σ' H' v u} J p q=>⟨v,H',J.os,J.bare,J.base,J.hok,p,q⟩
 cases fl with
 |ret u=>
  obtain⟨v,σ',H',J,p,q⟩:=c;exact j J p q
 |next=>
  obtain⟨σ',H',J,q⟩:=c;exact j (v:=V.non) (u:=Value.none) J rfl q
 |brk=>
  obtain⟨_,_,_,q⟩:=c;exact False.elim q
 |cont=>
  obtain⟨_,_,_,q⟩:=c;exact False.elim q
section
variable {X:Cx}{x:Str}{p pos:Pos}{e:Expr}{es:Nk}{t:TA}{id T:String}{r:List V->Hp->VK->Prop}
def IL(r:List V->Hp->VK->Prop)(t:TA):TE:=λσ H Q=>t σ H λvs H1=>r vs H1 Q
theorem aC(hc:gQ X (.builtin id) r)(hg:Gl X x)(hm:X.mg x=none)(hv:bootBuiltins x=some (.builtin id))(ha:PA X (e::es) t)(hn:autoParam (x≠"__name__") zz1._auto_1)(hdb:autoParam j⁻¹ zz1._auto_1)
  (he:autoParam (starEach (e::es) X.env=(false,eval e X.env)::starEach es X.env) zz0._auto_1) (hpl:autoParam h⁻¹ zz0._auto_1):PE X (.Call (.Name x p) (e::es) [] pos) (IL r t):=by
 intro a s σ H Q I h;refine wpAny_Call_Name_kw (fG I hg hm hv ?_ hn hdb);exact PyProof.Rows.callWith_builtin1 (bV (ha pos a s σ H _ I h) λus b ⟨vs,k,j,c,g⟩=>hc a b σ k vs us Q j c g) he hpl
theorem c_(hc:gQ X (.type T) r)(hg:Gl X x)(hm:X.mg x=none)(hv:bootBuiltins x=some (.type T))(ha:PA X (e::es) t)(hn:autoParam (x≠"__name__") zz1._auto_1)(hdb:autoParam j⁻¹ zz1._auto_1)
  (he:autoParam (starEach (e::es) X.env=(false,eval e X.env)::starEach es X.env) zz0._auto_1) (hpl:autoParam h⁻¹ zz0._auto_1):PE X (.Call (.Name x p) (e::es) [] pos) (IL r t):=by
 intro a s σ H Q I h;refine wpAny_Call_Name_kw (fG I hg hm hv ?_ hn hdb);exact PyProof.Rows.callWith_type1 (bV (ha pos a s σ H _ I h) λus b ⟨vs,k,j,c,g⟩=>hc a b σ k vs us Q j c g) he hpl
end
end L2
namespace HT
open PySem PyProof.Rows
section
variable {prog:Nf}{w:Ni}{A:Nh}{E:M5}{s:M9}
theorem cat_tup{t:Addr}{vs ws:Na}{Q:M5}(ht:IsTup s.heap t vs.toArray)(hb:IsTup s.heap b ws.toArray)(hv:vs≠[])
  (h1:ws=[]->Q (.ref t) s) (h2:ws≠[]->Q r⁻¹ {s with heap:=s.heap.push {cls:=.type "tuple",data:=.seq (vs++ws).toArray} })
  (hsz:vs.length+ws.length<=sizeLine):wpAny d⁻¹ A (binaryOp .Add (.ref t) (.ref b)) Q E s:=by
 obtain⟨⟨cls,u,data,o⟩,m,r,n,q⟩:=id ht;obtain⟨⟨cls2,k,data2,c⟩,a,j,p,g⟩:=id hb;simp only at r q j g;subst r q j g;have e:vs.toArray++ws.toArray=(vs++ws).toArray:=by simp
 by_cases l:ws=[]
 ·exact concat_meets ⟨_,m,rfl⟩ ⟨_,a,rfl⟩ noFill_tuple_add seq_tuple_add PySem.F.slot_tuple_add PySem.F.entry_tuple_add (PySem.F.args_tuple_add_2 _ _)
   (tuple_addW1 t b vs.toArray ws.toArray n p u k o c (by simpa using hv) (by simp[l])) ⟨m,a,h1 l⟩
 ·refine concat_meets ⟨_,m,rfl⟩ ⟨_,a,rfl⟩ noFill_tuple_add seq_tuple_add PySem.F.slot_tuple_add PySem.F.entry_tuple_add (PySem.F.args_tuple_add_2 _ _)
   (tuple_addW2 t b vs.toArray ws.toArray n p u k o c (by simpa using hv) (by simpa using l) (by rw[Mh,Mh];exact hsz)) ⟨m,a,?_⟩
  rw[e];exact h2 l
def sIx(n d:Nat):Option Int->Nat
 |none=>d
 |some v=>if v<0 then(v+(n:Int)).toNat else min v.toNat n
theorem sIx_none(n d:Nat):sIx n d none=d:=rfl
theorem sIx_nat(n d k:Nat):sIx n d (some (k:Int))=min k n:=by
 show(if(k:Int)<0 then((k:Int)+(n:Int)).toNat else min (k:Int).toNat n)=min k n;rw[q06 ⋯,Mj]
theorem sIx_le(n d:Nat)(hd:d<=n)(o:Option Int):sIx n d o<=n:=by
 cases o with
 |none=>exact hd
 |some v=>
  show(if v<0 then(v+(n:Int)).toNat else min v.toNat n)<=n
  by_cases a:v<0
  ·rw[q07 a];omega
  ·rw[q06 a];exact Nat.min_le_right _ _
theorem Al(v:Int)(n d:Nat):(if v<0 then max (v+(n:Int)) 0 else min v (n:Int))=((sIx n d (some v):Nat):Int):=by
 show(if v<0 then max (v+(n:Int)) 0 else min v (n:Int))=(((if v<0 then(v+(n:Int)).toNat else min v.toNat n):Nat):Int)
 by_cases a:v<0
 ·simp only[q07 a];omega
 ·simp only[q06 a];omega
theorem xR(lo hi:Option Int)(n:Nat):Builtin.Slice.sliceAdjust lo hi 1 (n:Int)=(((sIx n 0 lo:Nat):Int),((sIx n n hi:Nat):Int)):=by
 have h1:¬ ((1:Int)<0):=by omega
 unfold Builtin.Slice.sliceAdjust;simp only[h1,if_false];refine Prod.ext ?_ ?_
 ·cases lo with
  |none=>rfl
  |some v=>exact Al v n 0
 ·cases hi with
  |none=>rfl
  |some v=>exact Al v n n
theorem yE(i j:Nat):Builtin.Slice.slicePlaces (i:Int) (j:Int) 1=j-i:=by
 unfold Builtin.Slice.slicePlaces;have h1:(1:Int)>0:=by omega
 simp only[h1,if_true,Int.ediv_one]
 split<;>omega
theorem qZ{Q:Option Int->Shared->Prop}(p:IsPart v o)(h:Q o s):wpAny d⁻¹ A (Builtin.Slice.slicePartIndex v) Q E s:=by
 cases p with
 |none=>exact slicePart_none h
 |int i t=>exact slicePart_int h
theorem iS{sl:Addr}{vl vu:Value}{lo hi:Option Int}{n:Nat}{Q:Int×Int×Nat->Shared->Prop}(hs:s.heap.IsSliceOf sl vl vu .none)(pl:IsPart vl lo)(pu:IsPart vu hi)
  (h:Q (((sIx n 0 lo:Nat):Int),1,sIx n n hi-sIx n 0 lo) s):wpAny d⁻¹ A (Builtin.Slice.sliceApplied (.ref sl) (pure (n:Int))) Q E s:=by
 obtain⟨os,a,hcs,b⟩:=id hs;unfold Builtin.Slice.sliceApplied Builtin.Slice.sliceFields;refine q04 (q04 (wpAny_field a b (x:=vl) rfl (q04 (wpAny_field a b (x:=vu) rfl (q04 (wpAny_field a b (x:=.none) rfl (q05 ?_)))))));refine q04 (slicePart_none ?_);show wpAny _ _ (if((1:Int)==0)=true then _ else _) _ _ s;rw[q06 nofun];refine q04 (qZ pl (q04 (qZ pu (q04 (q05 ?_)))));show wpAny _ _ (match Builtin.Slice.sliceAdjust lo hi 1 (n:Int) with | (lo,hi)=>pure (lo,(1:Int),Builtin.Slice.slicePlaces lo hi 1)) _ _ s;rw[xR lo hi n];show wpAny _ _ (pure (((sIx n 0 lo:Nat):Int),(1:Int),Builtin.Slice.slicePlaces ((sIx n 0 lo:Nat):Int) ((sIx n n hi:Nat):Int) 1)) _ _ s;rw[yE];exact q05 h
theorem E3(xs:Array Value)(i k:Nat):((List.range k).filterMap fun(m:Nat)=>xs[((i:Int)+(m:Int)*1).toNat]?).toArray=((xs.toList.drop i).take k).toArray:=by
 have e:(fun(m:Nat)=>xs[((i:Int)+(m:Int)*1).toNat]?)=λm=>xs[i+m]?:=by
  funext m
  have:((i:Int)+(m:Int)*1).toNat=i+m:=by omega
  rw[this]
 rw[e];have:=pick_run xs i k;rw[List.filterMap_map]at this;have a:((λx=>xs[x]?)∘λx=>i+x)=λm=>xs[i+m]?:=rfl;rw[a]at this;rw[this]
theorem getItem_tuple_cut{t sl:Addr}{items:Array Value}{vl vu:Value}{lo hi:Option Int}{Q:M5}(ht:IsTup s.heap t items)(hs:s.heap.IsSliceOf sl vl vu .none)(pl:IsPart vl lo)(pu:IsPart vu hi)
  (hw:¬ (sIx items.size 0 lo=0/\sIx items.size items.size hi=items.size))
  (h:Q r⁻¹ {s with heap:=s.heap.push {cls:=.type "tuple",data:=.seq ((items.toList.drop (sIx items.size 0 lo)).take (sIx items.size items.size hi-sIx items.size 0 lo)).toArray} })
  (hsz:items.size<=sizeLine):wpAny d⁻¹ A (getItem (.ref t) (.ref sl)) Q E s:=by
 have a:sizeOk (.seq ((items.toList.drop (sIx items.size 0 lo)).take (sIx items.size items.size hi-sIx items.size 0 lo)).toArray):=by
  show((items.toList.drop (sIx items.size 0 lo)).take (sIx items.size items.size hi-sIx items.size 0 lo)).toArray.size<=sizeLine;rw[Mh,MN,MO,Array.length_toList];omega
 have hj:sIx items.size items.size hi<=items.size:=sIx_le _ _ (My _) hi;obtain⟨j,b,e,hds⟩:=id hs;have g:s.TypeIs (.ref sl) "slice":=⟨j,b,e⟩;unfold getItem
 try with_reducible refine q0U ?_
 first | refine q04 (q05 ?_) | skip
 refine q04 (wpAny_sequenceKey ht.typeIs nofun ?_);refine q04 (wpAny_callSpecial?_slot (name:=Str.ofString "__getitem__") ht.typeIs PyProof.Rows.slot_tuple_getitem
  (wpAny_call_entry PyProof.Rows.slot_tuple_getitem ht.typeIs entry_tuple_getitem ?_ (args_tuple_getitem _ _)))
 show wpAny _ _ (Builtin.Tuple.tupleItemsOf (.ref t) >>= _) _ _ s;refine q04 (tupleItemsOf_ ht ?_);refine q04 (wpAny_typeOf g ?_);rw[q07 nofun];refine q04 (iS hs pl pu ?_);have c:¬ ((((sIx items.size 0 lo:Nat):Int)==0&&(1:Int)==1&&(sIx items.size items.size hi-sIx items.size 0 lo)==items.size)=true):=by
  intro q;rw[q0M,q0M]at q;have q1:((sIx items.size 0 lo:Nat):Int)=0:=eq_of_beq q.1.1;have q2:sIx items.size items.size hi-sIx items.size 0 lo=items.size:=eq_of_beq q.2;exact hw ⟨⋯,⋯⟩
 show wpAny _ _ (if(((sIx items.size 0 lo:Nat):Int)==0&&(1:Int)==1&&(sIx items.size items.size hi-sIx items.size 0 lo)==items.size)=true then _ else _) _ _ s;rw[q06 c,E3]
 first
  |exact q04 (m:=Builtin.Tuple.tupleExact _) (wpAny_newObj_type (q05 ⟨_,rfl,q05 h⟩) a)
  |exact q04 (m:=Builtin.Tuple.tupleExact _) (wpAny_newObj_type (q04 (q05 (q05 ⟨_,rfl,q05 h⟩))) a)
  |exact q04 (q04 (m:=Builtin.Tuple.tupleExact _) (wpAny_newObj_type (q05 (q05 ⟨_,rfl,q05 h⟩)) a))
  |exact q04 (q04 (m:=Builtin.Tuple.tupleExact _) (wpAny_newObj_type (q05 ⟨_,rfl,q05 h⟩) a))
end
end HT
namespace L2
open PySem PySem.Spec PyProof.Rows
abbrev TO:=St->Hp->(Option Int->Hp->Prop)->Prop
def PO(X:Cx)(e:Option Expr)(t:TO):Prop:=
 ∀(pins:M7) (s:M9) (σ:St) (H:Hp) (Q:Option Int->Hp->Prop),Inv X pins σ H s->t σ H Q ->
  wpAny c⁻¹ X.A (evalPart e X.env) (λu s'=>∃o H',Inv X pins σ H' s'/\IsPart u o/\Q o H') X.xe s
def ux:TO:=λ_ H Q=>Q none H
def Df(t:TE):TO:=λσ H Q=>t σ H λx H1=>∃i,x=.int i/\Q (some i) H1
section
variable {X:Cx}{e:Expr}{te:TE}{lo hi:Option Expr}{tl th:TO}{pos p2:Pos}
theorem fq:PO X none ux:=by
 intro pins s σ H Q I h;rw[evalPart_none];exact q05 ⟨none,H,I,.none,h⟩
theorem dN(h:PE X e te):PO X (some e) (Df te):=by
 intro a s σ H Q I hw;rw[evalPart_some];refine bV (h a s σ H _ I hw) λu s1 ⟨x,j,g,b,c⟩=>?_;obtain⟨i,rfl,q⟩:=c;obtain⟨t,rfl⟩:=b;exact⟨some i,j,g,.int i t,q⟩
def HU(X:Cx)(r:V->Option Int->Option Int->Hp->VK->Prop):Prop:=
 ∀(pins:M7) (s:M9) (σ:St) (H:Hp) (x:V) (v vl vu:Value) (lo hi:Option Int) (sl:Addr) (Q:VK),Inv X pins σ H s->bi x v->s.heap.IsSliceOf sl vl vu .none->IsPart vl lo->IsPart vu hi->r x lo hi H Q ->
  ∃T id,typeLookup (.type T) "__getitem__"=pure (some (.builtin id))/\s.TypeIs v T/\wpAny c⁻¹ X.A (getItem v (.ref sl)) (EP X pins σ Q) X.xe s
def Jf(r:V->Option Int->Option Int->Hp->VK->Prop)(te:TE)(tl th:TO):TE:=λσ H Q=>te σ H λx H1=>tl σ H1 λl H2=>th σ H2 λu H3=>r x l u H3 Q
theorem cX(hr:HU X r)(he:PE X e te)(hl:PO X lo tl)(hu:PO X hi th):PE X (.Subscript e (.Slice lo hi none p2) pos) (Jf r te tl th):=by
 intro a s σ H Q I h;refine Subscript_ (bV (he a s σ H _ I h) λv k ⟨x,S,O,m,p⟩=>?_);refine wpAny_Slice (bV (hl a k σ S _ O p) λvl j ⟨l,R,M,B,o⟩=>bV (hu a j σ R _ M o) λvu c ⟨u,g,L,y,n⟩=>?_);rw[evalPart_none];refine q05 ?_;have J:Inv X a σ g {c with heap:=c.heap.push {cls:=.type "slice",data:=.fields #[vl,vu,.none]} }:=L.kept (t':=c.toks) λb ob q=>Ma _ q;obtain⟨T,id,G,C,D⟩:=hr a {c with heap:=c.heap.push {cls:=.type "slice",data:=.fields #[vl,vu,.none]} } σ g x v vl vu l u c.heap.objs.size Q J m (Heap.IsSliceOf.new ..) B y n;show wpAny c⁻¹ X.A (subscriptTail e (.Slice lo hi none p2) v (.ref c.heap.objs.size)) (EP X a σ Q) X.xe {c with heap:=c.heap.push {cls:=.type "slice",data:=.fields #[vl,vu,.none]} };exact tail_any (ops:=[.ref c.heap.objs.size,v]) C G D (by with_unfolding_all rfl)
def lX(xs:List V)(lo hi:Option Int):List V:=(xs.drop (HT.sIx xs.length 0 lo)).take (HT.sIx xs.length xs.length hi-HT.sIx xs.length 0 lo)
theorem ke(xs:List V)(lo hi:Option Int):(lX xs lo hi).length<=xs.length:=by
 unfold lX;rw[MN,MO];omega
def Gk(K:M6):V->Option Int->Option Int->Hp->VK->Prop:=λx lo hi H Q=>∃a xs,x=.ref a/\aS K H a xs /\
 ¬ (HT.sIx xs.length 0 lo=0/\HT.sIx xs.length xs.length hi=xs.length)/\∀p,H p=none->Q (.ref p) (aA H p (.tup (lX xs lo hi)))
theorem oM:HU X (Gk X.K):=by
 intro pins s σ H x v vl vu lo hi sl Q I rx hs pl pu h;obtain⟨a,e,rfl,l,m,q⟩:=h;cases rx;obtain⟨g,r,k,j⟩:=I.tuple l;have c:g.toArray.size=e.length:=by rw[Mh];exact r.length.symm
 refine⟨"tuple",_,PyProof.Rows.slot_tuple_getitem.lookup,k.typeIs,?_⟩;refine HT.getItem_tuple_cut k hs pl pu (by rw[c];exact m) ?_ (by rw[c];exact j);rw[c];refine⟨.ref s.heap.objs.size,_,I.laid (t':=s.toks) (o:=.tup (lX e lo hi)) (λb ob q=>Ma _ q) (My _) ?_,rfl,q _ (I.hok.fresh (My _))⟩;exact⟨MG (ke e lo hi) j,_,(r.drop (HT.sIx e.length 0 lo)).take (HT.sIx e.length e.length hi-HT.sIx e.length 0 lo),IsTup.new _ _⟩
def DB(K:M6):R2:=λx y H Q=>∃a b xs ys,x=.ref a/\y=.ref b/\aS K H a xs/\aS K H b ys/\xs≠[]/\xs.length+ys.length<=sizeLine /\
 (ys=[]->Q (.ref a) H)/\(ys≠[]->∀p,H p=none->Q (.ref p) (aA H p (.tup (xs++ys))))
theorem bd.nil_iff(r:bd xs us):us=[]↔xs=[]:=by
 cases r with
 |nil=>simp
 |cons _ _=>simp
theorem dZ:bg X (binaryOp .Add) (DB X.K):=by
 intro pins s σ H x y v u Q I rx ry h;obtain⟨a,b,k,j,rfl,rfl,C,B,r,g,m,l⟩:=h;cases rx;cases ry;obtain⟨its,e,p,_⟩:=I.tuple C;obtain⟨its2,c,n,_⟩:=I.tuple B;refine HT.cat_tup p n (λz=>r (e.nil_iff.mp z)) (λz=>⟨.ref a,H,I,rfl,m (c.nil_iff.mp z)⟩) (λz=>?_) (by rw[<- e.length,<- c.length];exact g);refine⟨.ref s.heap.objs.size,_,I.laid (t':=s.toks) (o:=.tup (k++j)) (λb ob q=>Ma _ q) (My _) ?_,rfl,l (λw=>z (c.nil_iff.mpr w)) _ (I.hok.fresh (My _))⟩;exact⟨by rw[Mx];exact g,_,e.append c,IsTup.new _ _⟩
end
def HW(n:Nat)(i:Int):Option Nat:=if 0<=i then(if i<n then some i.toNat else none) else if -(n:Int)<=i then some (i+n).toNat else none
def gj{α:Type}(xs:List α)(i:Int):Option α:=(HW xs.length i).bind λj=>xs[j]?
theorem Fz{n:Nat}{i:Int}{j:Nat}(h:HW n i=some j):seqIndex? i n=some j/\j<n/\-(n:Int)<=i/\i<n:=by
 unfold HW at h
 by_cases a:0<=i
 ·rw[q07 a]at h
  by_cases h1:i<n
  ·rw[q07 h1]at h
   have e:i.toNat=j:=q0Q h;exact⟨by rw[seqIndex_of a h1,e],⋯,⋯,h1⟩
  ·rw[q06 h1]at h;cases h
 ·rw[q06 a]at h
  by_cases h1:-(n:Int)<=i
  ·rw[q07 h1]at h
   have e:(i+n).toNat=j:=q0Q h;exact⟨by rw[seqIndex_neg ⋯ h1,e],⋯,h1,⋯⟩
  ·rw[q06 h1]at h;cases h
theorem vG{α:Type}{xs:List α}{i:Int}{v:α}(h:gj xs i=some v):∃j,seqIndex? i xs.length=some j/\xs[j]?=some v/\j<xs.length/\-(xs.length:Int)<=i/\i<xs.length:=by
 unfold gj at h;cases e:HW xs.length i with
 |none=>rw[e]at h;cases h
 |some j=>
  rw[e]at h;obtain⟨h1,h2,b,a⟩:=Fz e;exact⟨j,h1,h,h2,b,a⟩
theorem a_{α:Type}{xs:List α}{j:Nat}{v:α}(h:xs[j]?=some v):gj xs (j:Int)=some v:=by
 have hj:j<xs.length:=(L'.mp h).1;have e:HW xs.length (j:Int)=some j:=by
  unfold HW;rw[q07 ⋯,q07 ⋯];simp
 unfold gj;rw[e];exact h
def Aa(b:Expr):Prop:=∀o i,subscripted b false o i=operate [o,i] (getItem o i)
def G1(X:Cx)(r:R2):Prop:=
 ∀(value slice:Expr) (pins:M7) (s:M9) (σ:St) (H:Hp) (x y:V) (v u:Value) (Q:VK),Inv X pins σ H s->bi x v->bi y u->r x y H Q ->
  subscripted slice false v u=operate [v,u] (getItem v u)->wpAny c⁻¹ X.A (subscriptTail value slice v u) (EP X pins σ Q) X.xe s
def JC(X:Cx)(id:String)(r:V->List V->Hp->VK->Prop):Prop:=
 ∀(pins:M7) (s:M9) (σ:St) (H:Hp) (x:V) (xs:List V) (v:Value) (us:Na) (Q:VK),Inv X pins σ H s->bi x v->bd xs us->r x xs H Q ->
  wpAny c⁻¹ X.A (call (.builtin id) (v::us)) (EP X pins σ Q) X.xe s
section
variable {X:Cx}{a b:Expr}{ta tb:TE}{pos:Pos}
theorem az(hr:G1 X r)(ha:PE X a ta)(hb:PE X b tb)(hs:Aa b):PE X (.Subscript a b pos) (HM r ta tb):=by
 intro c s σ H Q I h;exact Subscript_ (HK ha hb I h λv u e x y l k j g q=>hr a b c e σ l x y v u Q k j g q (hs _ _))
def BA(K:M6):R2:=λx y H Q=>∃p xs i v,x=.ref p/\y=.int i/\aO K H p xs/\gj xs i=some v/\Q v H
def Ch(K:M6):R2:=λx y H Q=>∃p xs i v,x=.ref p/\y=.int i/\aS K H p xs/\gj xs i=some v/\Q v H
def HL:R2:=λx y H Q=>∃z i c,x=.str z/\y=.int i/\z.length<=sizeLine/\gj z.cps.toList i=some c/\Q (.str ⟨#[c]⟩) H
theorem wg:G1 X (BA X.K):=by
 intro value slice a s σ H x y v u Q I rx ry h hs;obtain⟨p,xs,i,z,rfl,rfl,o,C,q⟩:=h;cases rx;obtain⟨t,rfl⟩:=ry;obtain⟨g,r,e,hz⟩:=I.list o;obtain⟨j,h1,h2,h3,G,D⟩:=vG C;obtain⟨w,m,c⟩:=r.get h2;have B:=r.length;have hn:=ql;have b:EP X a σ Q w s:=⟨z,H,I,c,q⟩
 by_cases l:0<=i
 ·have k:i.toNat=j:=by
   rw[seqIndex_of l D]at h1;exact q0Q h1
  exact item_listR e.isList l ⋯ (by rw[k];simpa using m) b hs
 ·have k:(i+(g.toArray.size:Int)).toNat=j:=by
   rw[seqIndex_neg ⋯ G]at h1;rw[Mh,<- B];exact q0Q h1
  exact subscriptTail_builtinR (x:=w) e.isList.typeIs slot_list_getitem.lookup
   (wpAny_getItem_list_neg (Q:=λr n=>r=w/\EP X a σ Q r n) e.isList ⋯ (by rw[Mh]<;>omega) ⋯ (by rw[k];simpa using m) ⟨rfl,b⟩) hs
theorem Dz:G1 X (Ch X.K):=by
 intro value slice a s σ H x y v u Q I rx ry h hs;obtain⟨p,xs,i,z,rfl,rfl,k,m,q⟩:=h;cases rx;obtain⟨t,rfl⟩:=ry;obtain⟨its,r,e,hz⟩:=I.tuple k;obtain⟨j,h1,h2,h3,h4,h5⟩:=vG m;obtain⟨w,n,b⟩:=r.get h2;have l:=r.length;have hn:=ql;have c:EP X a σ Q w s:=⟨z,H,I,b,q⟩;exact subscriptTail_builtinR (x:=w) e.typeIs slot_tuple_getitem.lookup
  (getItem_tuple (j:=j) (Q:=λr g=>r=w/\EP X a σ Q r g) e ⋯ ⋯ (by rw[Mh,<- l];exact h1) (by simpa using n) ⟨rfl,c⟩) hs
theorem i_:G1 X HL:=by
 intro value slice pins s σ H x y v u Q I rx ry h hs;obtain⟨z,i,c,rfl,rfl,hz,b,q⟩:=h;obtain⟨t,rfl⟩:=rx;obtain⟨t',rfl⟩:=ry;obtain⟨j,h1,h2,h3,g,e⟩:=vG b;have a:z.cps.toList.length=z.length:=by simp[Str.length]
 rw[a]at h1 g e;have hn:=ql;exact tail_any (typeIs_str s z t) slot_str_getitem.lookup (getItem_str (c:=c) (by
  have l:decide (i < -(2 ^ 63:Int))=false:=q08 ⋯;have k:decide (i≥2 ^ 63)=false:=q08 ⋯;rw[l,k,Bool.or_false]) (by rw[h1];simpa using h2) ⟨.str ⟨#[c]⟩,H,I.tok _,⟨_,rfl⟩,q⟩) hs
theorem wj(lo hi:Option Int)(n:Nat):(sliceBounds lo hi none n).1=((HT.sIx n 0 lo:Nat):Int)/\(sliceBounds lo hi none n).2.1=((HT.sIx n n hi:Nat):Int)/\(sliceBounds lo hi none n).2.2=1:=by
 refine⟨?_,?_,rfl⟩
 ·cases lo with
  |none=>simp[sliceBounds,HT.sIx]
  |some i=>
   simp only[sliceBounds,HT.sIx,Option.getD_none,show(1:Int)>0 by decide,if_true]
   by_cases h:i<0
   ·simp only[h,if_true]<;>omega
   ·simp only[h,if_false]<;>omega
 ·cases hi with
  |none=>simp[sliceBounds,HT.sIx]
  |some i=>
   simp only[sliceBounds,HT.sIx,Option.getD_none,show(1:Int)>0 by decide,if_true]
   by_cases h:i<0
   ·simp only[h,if_true]<;>omega
   ·simp only[h,if_false]<;>omega
theorem sJ(its:Na)(lo hi:Option Int):slicePick its.toArray lo hi none=((its.drop (HT.sIx its.length 0 lo)).take (HT.sIx its.length its.length hi-HT.sIx its.length 0 lo)).toArray:=by
 obtain⟨h1,h2,a⟩:=wj lo hi its.toArray.size;unfold slicePick;rw[h1,h2,a];simp only[sliceRange_one,pick_run,Mh]<;>rfl
def Hc(K:M6):V->Option Int->Option Int->Hp->VK->Prop:=λx lo hi H Q=>∃a xs,x=.ref a/\aO K H a xs/\∀p,H p=none->Q (.ref p) (aA H p (.lst (lX xs lo hi)))
theorem Gg:HU X (Hc X.K):=by
 intro pins s σ H x v vl vu lo hi sl Q I rx hs pl pu h;obtain⟨a,c,rfl,k,q⟩:=h;cases rx;obtain⟨its,r,g,j⟩:=I.list k;have e:=r.length;refine⟨"list",_,slot_list_getitem.lookup,g.isList.typeIs,?_⟩;refine wpAny_getItem_list_slice g.isList hs pl pu .none (by simp) ?_ (by rw[Mh]<;>omega);rw[sJ,<- e];refine⟨.ref s.heap.objs.size,_,I.laid (t':=s.toks) (o:=.lst (lX c lo hi)) (λb ob q=>Ma _ q) (My _) ?_,rfl,q _ (I.hok.fresh (My _))⟩;exact⟨MG (ke c lo hi) j,_,0,(r.drop (HT.sIx c.length 0 lo)).take (HT.sIx c.length c.length hi-HT.sIx c.length 0 lo),Mg _ rfl⟩
def jy:V->Bool
 | .non=>true
 | .bl _=>true
 | .int _=>true
 | .str _=>true
 |_=>false
def nB:V->V->Bool
 | .non,.non=>true
 | .bl a,.bl b=>a==b
 | .bl a,.int b=>(if a then 1 else 0)==b
 | .int a,.bl b=>a==(if b then 1 else 0)
 | .int a,.int b=>a==b
 | .str a,.str b=>a==b
 |_,_=>false
theorem gP(ry:bi y u)(rx:bi x v)(fy:jy y=true)(fx:jy x=true):SeqAt.EqAt A s u v (nB y x):=by
 cases y with
 |non=>
  cases ry;cases x with
  |non=>cases rx;exact SeqAt.EqAt.same _
  |bl b=>cases rx;exact SeqAt.EqAt.none_bool b
  |int b=>obtain⟨t,rfl⟩:=rx;exact SeqAt.EqAt.none_int b t
  |str b=>obtain⟨t,rfl⟩:=rx;exact SeqAt.EqAt.none_str b t
  |_=>exact q0O (show false=true from fx) MA
 |bl a=>
  cases ry;cases x with
  |non=>cases rx;exact SeqAt.EqAt.bool_none a
  |bl b=>cases rx;exact SeqAt.EqAt.bool_bool a b
  |int b=>obtain⟨t,rfl⟩:=rx;exact SeqAt.EqAt.bool_int a b t
  |str b=>obtain⟨t,rfl⟩:=rx;exact SeqAt.EqAt.bool_str a b t
  |_=>exact q0O (show false=true from fx) MA
 |int a=>
  obtain⟨c,rfl⟩:=ry;cases x with
  |non=>cases rx;exact SeqAt.EqAt.int_none a c
  |bl b=>cases rx;exact SeqAt.EqAt.int_bool a c b
  |int b=>obtain⟨t,rfl⟩:=rx;exact SeqAt.EqAt.int_int a c b t
  |str b=>obtain⟨t,rfl⟩:=rx;exact SeqAt.EqAt.int_str a c b t
  |_=>exact q0O (show false=true from fx) MA
 |str a=>
  obtain⟨c,rfl⟩:=ry;cases x with
  |non=>cases rx;exact SeqAt.EqAt.str_none a c
  |bl b=>cases rx;exact SeqAt.EqAt.str_bool a c b
  |int b=>obtain⟨t,rfl⟩:=rx;exact SeqAt.EqAt.str_int a c b t
  |str b=>obtain⟨t,rfl⟩:=rx;exact SeqAt.EqAt.str_str a c b t
  |_=>exact q0O (show false=true from fx) MA
 |_=>exact q0O (show false=true from fy) MA
theorem mW:gQ X (.builtin "len") (λxs H Q=>∃p ys,xs=[.ref p]/\(aO X.K H p ys\/aS X.K H p ys)/\Q (.int ys.length) H):=by
 intro pins s σ H xs us Q I r h;obtain⟨p,ys,rfl,hq,q⟩:=h;obtain⟨u,rfl,g⟩:=rP r;cases g;have hn:=ql;rcases hq with hq | hq
 ·obtain⟨e,b,c,j⟩:=I.list hq
  have a:=b.length;exact Calls.call_len_list c.isList (by simp only[Mh]<;>omega) ⟨.int ys.length,H,I.tok _,⟨s.toks+1,by rw[Mh,a]⟩,q⟩
 ·obtain⟨e,b,c,j⟩:=I.tuple hq
  have a:=b.length;exact len_tuple c (by simp only[Mh]<;>omega) ⟨.int ys.length,H,I.tok _,⟨s.toks+1,by rw[Mh,a]⟩,q⟩
theorem aP:gQ X (.builtin "len") (λxs H Q=>∃z,xs=[.str z]/\z.length<=sizeLine/\Q (.int z.length) H):=by
 intro pins s σ H xs us Q I r h;obtain⟨z,rfl,hz,q⟩:=h;obtain⟨u,rfl,t,rfl⟩:=rP r;have hn:=ql;exact len_str ⋯ ⟨.int z.length,H,I.tok _,⟨_,rfl⟩,q⟩
theorem cR:gQ X (.type "list") (λxs H Q=>∃p ys,xs=[.ref p]/\(aO X.K H p ys\/aS X.K H p ys)/\∀l,H l=none->Q (.ref l) (aA H l (.lst ys))):=by
 intro k s σ H xs us Q I r h;obtain⟨p,ys,rfl,hq,q⟩:=h;obtain⟨u,rfl,G⟩:=rP r;cases G;have x:∀(a:Na),bd ys a->ys.length<=sizeLine->∀(c:Heap) (j:Nat),(∀b o',s.heap.get? b=some o'->c.get? b=some o') ->
   c.get? s.heap.objs.size=some {cls:=.type "list",dict:=none,data:=.seq a.toArray j,slots:=#[]}->EP X k σ Q r⁻¹ {s with heap:=c }:=λa g m c j kp e=>
  ⟨.ref s.heap.objs.size,_,I.laid (t':=s.toks) kp (My _) (show bX X.prog X.w _ c _ (.lst ys) from⟨m,a,j,g,e⟩),rfl,q _ (I.hok.fresh (My _))⟩
 rcases hq with hq | hq
 ·obtain⟨a,g,y,m⟩:=I.list hq
  have v:=g.length;obtain⟨o,B,D,n,C⟩:=y.isList;exact call_list_seq p (.inl rfl) B D C (λc j kp e=>x a g m c j kp e) (by simp only[Mh]<;>omega)
 ·obtain⟨a,g,y,m⟩:=I.tuple hq
  have v:=g.length;obtain⟨o,B,D,n,C⟩:=y;exact call_list_seq p (.inr rfl) B D C (λc j kp e=>x a g m c j kp e) (by simp only[Mh]<;>omega)
theorem sN:gQ X (.type "tuple") (λxs H Q=>∃p ys,xs=[.ref p]/\((aO X.K H p ys/\∀l,H l=none->Q (.ref l) (aA H l (.tup ys)))\/(aS X.K H p ys/\Q (.ref p) H))):=by
 intro a s σ H xs us Q I r h;obtain⟨p,ys,rfl,h⟩:=h;obtain⟨u,rfl,x⟩:=rP r;cases x;rcases h with⟨m,q⟩ | ⟨m,q⟩
 ·obtain⟨c,j,k,n⟩:=I.list m
  have hlen:=j.length;refine call_tuple_list k.isList (λg kp=>?_) (by simp only[Mh]<;>omega);have v:Inv X a σ H {s with heap:=g }:=I.kept (t':=s.toks) kp;have y:Inv X a σ (aA H g.objs.size (.tup ys)) {s with heap:=g.push {cls:=.type "tuple",data:=.seq c.toArray} }:=
   v.laid (t':=s.toks) (λb o e=>Ma _ e) (My _) (show bX X.prog X.w _ _ _ (.tup ys) from⟨n,c,j,IsTup.new _ _⟩)
  exact⟨.ref g.objs.size,_,y,rfl,q _ (v.hok.fresh (My _))⟩
 ·obtain⟨c,j,k,n⟩:=I.tuple m
  exact call_tuple_same k ⟨.ref p,H,I,rfl,q⟩
def JH(K:M6)(T:String)(x:V)(H:Hp):Prop:=match x with
 | .str _=>T="str"
 | .int _=>T="int"
 | .ref p=>(T="list"/\∃xs,aO K H p xs)\/(T="tuple"/\∃o,K.lookup p=some o/\o.cls=.type "tuple"/\o.dict=none) \/
   (T="dict"/\((∃kvs,H p=some (.dK kvs))\/∃kvs,H p=some (.dT kvs)))\/(T="set"/\∃S n,H p=some (.set S n))
 |_=>False
theorem Hs{pins:M7}{σ:St}(I:Inv X pins σ H s)(r:bi x v)(ty:JH X.K T x H) :
  s.TypeIs v T/\∀a,v=.ref a->∃ob,s.heap.get? a=some ob/\ob.dict=none:=by
 cases x with
 |str z=>
  obtain⟨t,rfl⟩:=r;cases(show T="str" from ty);exact⟨typeIs_str s z t,λ_ e=>nomatch e⟩
 |int i=>
  obtain⟨t,rfl⟩:=r;cases(show T="int" from ty);exact⟨typeIs_int s i t,λ_ e=>nomatch e⟩
 |ref p=>
  cases r;rcases ty with⟨rfl,xs,q⟩ | ⟨rfl,o,b,u,k⟩ | ⟨rfl,b⟩ | ⟨rfl,S,n,b⟩
  ·obtain⟨its,_,m,_⟩:=I.list q
   refine⟨m.isList.typeIs,λa e=>?_⟩;cases e;obtain⟨o,n,e,c,k,_⟩:=m;exact⟨o,e,k⟩
  ·refine⟨⟨o,I.kIn p o b,u⟩,λa e=>?_⟩
   cases e;exact⟨o,I.kIn _ o b,k⟩
  ·have z:∃o,s.heap.get? p=some o/\o.ExactDict:=by
    rcases b with⟨j,b⟩ | ⟨j,b⟩
    ·obtain⟨_,_,_,_,o,_,_,e,g,_⟩:=I.hok p _ b
     exact⟨o,e,g⟩
    ·obtain⟨_,_,_,_,o,_,_,e,g,_⟩:=I.hok p _ b
     exact⟨o,e,g⟩
   obtain⟨o,e,g⟩:=z;refine⟨⟨o,e,g.1⟩,λa l=>?_⟩;cases l;exact⟨o,e,g.2.1⟩
  ·obtain⟨o,_,_,_,e,g,_⟩:=I.hok p _ b
   refine⟨⟨o,e,g.1⟩,λa l=>?_⟩;cases l;exact⟨o,e,g.2.1⟩
 |_=>exact False.elim ty
def IM(K:M6)(T:String)(r:V->List V->Hp->VK->Prop)(to:TE)(t:TA):TE:=λσ H Q=>to σ H λx H1=>JH K T x H1/\t σ H1 λxs H2=>r x xs H2 Q
variable {o e:Expr}{es:Nk}{to:TE}{t:TA}{name:Str}{apos cpos:Pos}{T id:String}{r:V->List V->Hp->VK->Prop}
theorem ib(pa:PlainAttrs T)(slot:Slot T name id)(hty:typeOf (.builtin id)=pure (.type "method_descriptor"))(hm:JC X id r)(ho:PE X o to)(ha:PA X (e::es) t)
  (hbase:autoParam (attributeBase o name X.env (eval o X.env)=eval o X.env) zz0._auto_1)
  (hfew:autoParam (((backTo cpos (starEach (e::es) X.env)).all (λx=>!x.1)&&(backToKw cpos (keywordEach [] X.env)).all (λx=>x.1.isSome)
   && decide ((e::es).length+([]:List Keyword).length+(if([]:List Keyword).isEmpty then 0 else 1)<30))=true) zz0._auto_1)
  (hline:autoParam ((apos.endLine==cpos.line)=true) zz0._auto_1) (hs:autoParam (starEach (e::es) X.env=(false,eval e X.env)::starEach es X.env) zz0._auto_1) (hplain:autoParam ((backTo cpos (starEach es X.env)).any (·.1)=false) zz0._auto_1) :
  PE X (.Call (.Attribute o name apos) (e::es) [] cpos) (IM X.K T r to t):=by
 intro a s σ H Q I h;refine wpAny_Call_method_late hbase hfew hline rfl (bV (ho a s σ H _ I h) λv k ⟨x,u,g,b,ty,n⟩=>?_);obtain⟨h1,h2⟩:=Hs g b ty;refine⟨T,id,pa,slot,hty,h1,h2,?_⟩;have c:=ha cpos a k σ u _ g n;rw[hs]at c ⊢;refine Calls.callWith_builtin (by show(false||(backTo cpos (starEach es X.env)).any (·.1))=false;rw[hplain]<;>rfl) (Calls.evalArgs_plain ?_);exact bV c λus j ⟨vs,q,p,l,m⟩=>hm a j σ q x vs v us Q p b l m
end
def Jc(X:Cx)(id:String)(r:V->List V->Hp->VK->Prop):Prop:=
 ∀(pins:M7) (s:M9) (σ:St) (H:Hp) (x:V) (xs:List V) (v:Value) (us:Na) (Q:VK),Inv X pins σ H s->bi x v->bd xs us->r x xs H Q ->
  wpAny c⁻¹ X.A (call (.builtin id) (v::us)) (EP X pins σ Q) X.xe s
theorem bd.one{x:V}{us:Na}(h:bd [x] us):∃u,us=[u]/\bi x u:=by
 cases h with | cons r h=>cases h;exact⟨_,rfl,r⟩
theorem bd.two{x y:V}{us:Na}(h:bd [x,y] us):∃u v,us=[u,v]/\bi x u/\bi y v:=by
 cases h with | cons r h=>obtain⟨u,rfl,q⟩:=bd.one h;exact⟨_,_,rfl,r,q⟩
theorem bd.zero:∀{us:Na},bd [] us->us=[]
 |_,.nil=>rfl
theorem bd.eraseIdx:∀{xs:List V} {us:Na} (i:Nat),bd xs us->bd (xs.eraseIdx i) (us.eraseIdx i)
 |_,_,_,.nil=>.nil
 |_,_,0,.cons _ t=>t
 |_,_,i+1,.cons r t=>.cons r (bd.eraseIdx i t)
theorem tf{α:Type}:∀(l:List α) (i:Nat),(l.eraseIdx i).length<=l.length
 | [],_=>My _
 |_::_,0=>Nat.le_succ _
 |_::r,i+1=>Nat.succ_le_succ (tf r i)
section
variable {X:Cx}{pins:M7}{σ:St}{H:Hp}{s:M9}{l b:Addr}{xs ys zs:List V}
theorem Inv.lset{its its':Na}{f:Array Value->Array Value}{t':Nat}(I:Inv X pins σ H s)(hH:H l=some (.lst xs))
  (e:s.heap.get? l=some {cls:=.type "list",data:=.seq its.toArray n}) (hf:f its.toArray=its'.toArray) (hv:bd ys its') (hz:ys.length<=sizeLine) :
  Inv X pins σ (aA H l (.lst ys)) {s with heap:=s.heap.update l (Obj.mapSeq f),toks:=t' }:=by
 have q:=PySem.IsL.update e f;rw[hf]at q;refine I.write (x:=l) (e:=l) (by rw[hH];exact trivial) (.inl rfl) (λb' u b a=>(Mf s.heap (Obj.mapSeq f) (Ne.symm b)).trans a) ⟨_,q⟩ ?_;exact⟨hz,its',_,hv,q⟩
theorem Inv.lnew{its:Na}{t':Nat}(I:Inv X pins σ H s)(hv:bd ys its)(hz:ys.length<=sizeLine) :
  Inv X pins σ (aA H s.heap.objs.size (.lst ys)) {s with heap:=s.heap.push {cls:=.type "list",data:=.seq its.toArray},toks:=t' }:=
 I.laid (λ_ _ q=>Ma _ q) (My _) ⟨hz,its,0,hv,Mg _ rfl⟩
theorem Inv.fresh(I:Inv X pins σ H s):H s.heap.objs.size=none:=I.hok.fresh (My _)
theorem Inv.lstM(I:Inv X pins σ H s)(hH:H l=some (.lst xs)):xs.length<=sizeLine/\∃(its:Na) (n:Nat),bd xs its/\xs.length=its.length/\s.heap.get? l=some {cls:=.type "list",data:=.seq its.toArray n}:=by
 obtain⟨z,its,n,r,e⟩:=I.hok l _ hH;exact⟨z,its,n,r,r.length,e⟩
theorem DL{n:Nat}(h:n<=sizeLine):Builtin.List.listTooLong n=false:=by
 unfold Builtin.List.listTooLong;exact q08 ⋯
end
section
variable {X:Cx}
def uH:V->List V->Hp->VK->Prop:=λx vs H Q=>∃l xs y,x=.ref l/\vs=[y]/\H l=some (.lst xs)/\xs.length<sizeLine/\Q .non (aA H l (.lst (xs++[y])))
theorem cL:Jc X "list.append" uH:=by
 intro pins s σ H x vs v us Q I rx rv h;obtain⟨l,xs,y,rfl,rfl,b,hz,q⟩:=h;cases rx;obtain⟨u,rfl,c⟩:=rv.one;obtain⟨z,a,n,r,hl,e⟩:=I.lstM b;refine call_meets F.slot_list_append ⟨_,e,rfl⟩ F.entry_list_append (F.args_list_append_2 _ _) (PySem.list_append l a.toArray n u (by rw[Mh];omega)) ⟨e,?_⟩;refine⟨.non,_,I.lset (its':=a++[u]) b e (by simp) (r.append (.cons c .nil)) ?_,rfl,q⟩;rw[Mx,q0V];omega
theorem q03{e:Expr}{es:List Expr}{to:TE}{t:TA}{apos cpos:Pos}(ho:PE X o to)(ha:PA X (e::es) t)
  (hbase:autoParam (attributeBase o "append" X.env (eval o X.env)=eval o X.env) zz0._auto_1)
  (hfew:autoParam (((backTo cpos (starEach (e::es) X.env)).all (λx=>!x.1)&&(backToKw cpos (keywordEach [] X.env)).all (λx=>x.1.isSome)
   && decide ((e::es).length+([]:List Keyword).length+(if([]:List Keyword).isEmpty then 0 else 1)<30))=true) zz0._auto_1)
  (hline:autoParam ((apos.endLine==cpos.line)=true) zz0._auto_1) (hs:autoParam (starEach (e::es) X.env=(false,eval e X.env)::starEach es X.env) zz0._auto_1) (hplain:autoParam ((backTo cpos (starEach es X.env)).any (·.1)=false) zz0._auto_1) :
  PE X (.Call (.Attribute o "append" apos) (e::es) [] cpos) (IM X.K "list" uH to t):=ib PySem.F.plainAttrs_list PySem.F.slot_list_append PySem.F.type_list_append cL ho ha hbase hfew hline hs hplain
def vq:V->List V->Hp->VK->Prop:=λx vs H Q=>∃l b xs zs,x=.ref l/\vs=[.ref b]/\H l=some (.lst xs)/\H b=some (.lst zs)/\xs.length+zs.length<=sizeLine/\Q .non (aA H l (.lst (xs++zs)))
theorem BV:Jc X "list.extend" vq:=by
 intro pins s σ H x vs v us Q I rx rv h;obtain⟨l,b,xs,zs,rfl,rfl,k,w,hz,q⟩:=h;cases rx;obtain⟨u,rfl,m⟩:=rv.one;cases m;obtain⟨z,c,n,r,hl,e⟩:=I.lstM k;obtain⟨z2,a,p,o,hl2,y⟩:=I.lstM w;have j:c.toArray.size+a.toArray.size<=sizeLine:=by rw[Mh,Mh];omega
 have g:¬ (!c.toArray.isEmpty&&Builtin.List.listTooLong (c.toArray.size+a.toArray.size))=true:=by
  rw[DL j,Bool.and_false];exact MA
 refine call_meets F.slot_list_extend ⟨_,e,rfl⟩ F.entry_list_extend (F.args_list_extend_2 _ _)
  (AutoSeq1.list_extend_list_list_0 l c.toArray n b a.toArray p g (by rw[Mh];omega) ⋯) ⟨e,y,?_⟩
 refine⟨.non,_,I.lset (its':=c++a) k e (by simp) (r.append o) ?_,rfl,q⟩;rw[Mx];omega
def E7:V->List V->Hp->VK->Prop:=λx vs H Q=>∃l xs i k y,x=.ref l/\vs=[.int i]/\H l=some (.lst xs)/\-(2 ^ 63)<=i/\i<2 ^ 63/\seqIndex? i xs.length=some k/\xs[k]?=some y/\Q y (aA H l (.lst (xs.eraseIdx k)))
theorem Et:Jc X "list.pop" E7:=by
 intro pins s σ H x vs v us Q I rx rv h;obtain⟨l,g,i,k,y,rfl,rfl,c,h1,h2,B,m,q⟩:=h;cases rx;obtain⟨u,rfl,j⟩:=rv.one;obtain⟨t,rfl⟩:=j;obtain⟨z,a,n,r,p,e⟩:=I.lstM c;obtain⟨w,o,b⟩:=r.get m;refine call_meets F.slot_list_pop ⟨_,e,rfl⟩ F.entry_list_pop (F.args_list_pop_2 _ _)
  (MeetsSeq.list_pop_at l a.toArray n i t k w (fitsIndex_both h1 h2) (by rw[Mh,<- p];exact B) (by rw[<- Array.getElem?_toList];exact o) (by rw[Mh];omega)) ⟨e,?_⟩
 refine⟨y,_,I.lset (its':=a.eraseIdx k) c e ?_ (r.eraseIdx k) ?_,b,q⟩
 ·show a.toArray.eraseIdxIfInBounds k=(a.eraseIdx k).toArray
  rw[List.eraseIdxIfInBounds_toArray]
 ·have:=tf g k
  omega
def Hf:R2:=λx y H Q=>∃l b xs zs,x=.ref l/\y=.ref b/\H l=some (.lst xs)/\H b=some (.lst zs)/\xs.length+zs.length<=sizeLine/\∀p,H p=none->Q (.ref p) (aA H p (.lst (xs++zs)))
theorem zQ:bg X (binaryOp .Add) Hf:=by
 intro pins s σ H x y v u Q I rx ry h;obtain⟨l,b,xs,zs,rfl,rfl,j,k,hz,q⟩:=h;cases rx;cases ry;obtain⟨z,c,n,r,hl,e⟩:=I.lstM j;obtain⟨z2,a,n2,g,hl2,o⟩:=I.lstM k;refine PySem.P.add_list e o ?_ (by rw[Mh,Mh];omega);have m:c.toArray++a.toArray=(c++a).toArray:=by simp
 rw[m];exact⟨.ref _,_,I.lnew (t':=s.toks) (r.append g) (by rw[Mx];omega),rfl,q _ I.fresh⟩
end
section
variable {κ:Type}[DecidableEq κ]
def cn(kvs:List (κ×V))(k:κ):Option V:=(kvs.find? λkv=>decide (kv.1=k)).map (·.2)
def cF(kvs:List (κ×V))(k:κ)(v:V):List (κ×V):=
 if(kvs.any λkv=>decide (kv.1=k))=true then kvs.map (λkv=>if kv.1=k then(kv.1,v) else kv) else kvs++[(k,v)]
theorem cU{p:κ×V}{r:List (κ×V)}{k:κ}(e:p.1=k):cn (p::r) k=some p.2:=by simp[cn,List.find?_cons,e]
theorem cV{p:κ×V}{r:List (κ×V)}{k:κ}(e:¬ p.1=k):cn (p::r) k=cn r k:=by simp[cn,List.find?_cons,e]
theorem fT(k:κ):∀kvs:List (κ×V),(kvs.any λkv=>decide (kv.1=k))=(cn kvs k).isSome
 | []=>rfl
 |p::r=>by
  rw[List.any_cons]
  by_cases e:p.1=k
  ·simp only[cU e,q09 e,Bool.true_or,Option.isSome_some]
  ·rw[cV e,q08 e,Bool.false_or];exact fT k r
theorem xu(k j:κ)(y:V):∀kvs:List (κ×V),cn (kvs.map λkv=>if kv.1=k then(kv.1,y) else kv) j=(cn kvs j).map λx=>if j=k then y else x
 | []=>rfl
 |p::r=>by
  have ih:=xu k j y r;rw[MF]
  by_cases h:p.1=k
  ·rw[q07 h]
   by_cases e:p.1=j
   ·rw[cU (p:=(p.1,y)) e,cU e,Option.map_some,q07 (e.symm.trans h)]
   ·rw[cV (p:=(p.1,y)) e,cV e,ih]
  ·rw[q06 h]
   by_cases e:p.1=j
   ·rw[cU (p:=p) e,cU e,Option.map_some,q06 (λz=>h (e.trans z))]
   ·rw[cV (p:=p) e,cV e,ih]
theorem ug(k j:κ)(y:V):∀kvs:List (κ×V),cn kvs k=none->cn (kvs++[(k,y)]) j=if j=k then some y else cn kvs j
 | [],_=>by
  by_cases e:k=j
  ·rw[q07 e.symm];exact cU (p:=(k,y)) e
  ·rw[q06 (λz=>e z.symm)];exact cV (p:=(k,y)) e
 |p::r,hn=>by
  rw[List.cons_append];have hk:¬ p.1=k:=λz=>by rw[cU z]at hn;cases hn
  rw[cV hk]at hn;have ih:=ug k j y r hn
  by_cases e:p.1=j
  ·rw[cU e,cU e,q06 (λz=>hk (e.trans z))]
  ·rw[cV e,cV e,ih]
theorem m_(kvs:List (κ×V))(k j:κ)(y:V):cn (cF kvs k y) j=if j=k then some y else cn kvs j:=by
 unfold cF
 by_cases a:(kvs.any λb=>decide (b.1=k))=true
 ·rw[q07 a,xu]
  rw[fT]at a
  by_cases e:j=k
  ·obtain⟨x,c⟩:=Option.isSome_iff_exists.mp a
   rw[q07 e,e,c,Option.map_some,q07 rfl]
  ·rw[q06 e]
   cases cn kvs j with
   |none=>rfl
   |some x=>rw[Option.map_some,q06 e]
 ·rw[q06 a]
  refine ug k j y kvs ?_;rw[fT]at a;cases q:cn kvs k with
  |none=>rfl
  |some x=>rw[q]at a;exact(a rfl).elim
theorem hJ(kvs:List (κ×V))(k:κ)(v:V):(cF kvs k v).length<=kvs.length+1:=by
 unfold cF
 split
 ·rw[Mb];omega
 ·rw[Mx,Mm,List.length_nil];omega
theorem rB{kvs:List (κ×V)}{k:κ}(v:V)(h:cn kvs k=none):cF kvs k v=kvs++[(k,v)]:=by
 unfold cF;rw[fT,h];exact q06 nofun
theorem kr.isSome_eq(r:kr o u):o.isSome=u.isSome:=by
 cases o with
 |none=>cases u with
  |none=>rfl
  |some _=>exact(show False from r).elim
 |some _=>cases u with
  |none=>exact(show False from r).elim
  |some _=>rfl
theorem KV.val{kvs:List (κ×V)}{vs:List (κ×Value)}(r:KV kvs vs)(k:κ):kr (cn kvs k) (valueAt vs k):=by
 unfold KV at r
 induction r with
 |nil=>exact True.intro
 | @cons p q ps qs h t ih=>
  obtain⟨h1,h2⟩:=h
  by_cases e:p.1=k
  ·have a:q.1=k:=h1.symm.trans e
   have b:valueAt (q::qs) k=some q.2:=by simp[valueAt,List.find?_cons,a]
   rw[cU e,b];exact h2
  ·have a:¬ q.1=k:=λz=>e (h1.trans z)
   have b:valueAt (q::qs) k=valueAt qs k:=by simp[valueAt,List.find?_cons,a]
   rw[cV e,b];exact ih
theorem KV.any{kvs:List (κ×V)}{vs:List (κ×Value)}(r:KV kvs vs)(k:κ):(kvs.any λkv=>decide (kv.1=k))=vs.any λkv=>decide (kv.1=k):=by
 unfold KV at r
 induction r with
 |nil=>rfl
 |cons h t ih=>rw[List.any_cons,List.any_cons,ih,h.1]
theorem KV.repl{kvs:List (κ×V)}{vs:List (κ×Value)}(r:KV kvs vs)(k:κ){y:V}{u:Value}(ry:bi y u) :
  KV (kvs.map λkv=>if kv.1=k then(kv.1,y) else kv) (vs.map λkv=>if kv.1=k then(kv.1,u) else kv):=by
 unfold KV at r ⊢
 induction r with
 |nil=>exact .nil
 | @cons p q ps qs h t ih=>
  rw[MF,MF];refine .cons ?_ ih;obtain⟨h1,h2⟩:=h
  by_cases e:p.1=k
  ·rw[q07 e,q07 (h1.symm.trans e)];exact⟨h1,ry⟩
  ·rw[q06 e,q06 (λz=>e (h1.trans z))];exact⟨h1,h2⟩
theorem KV.put{kvs:List (κ×V)}{vs:List (κ×Value)}(r:KV kvs vs)(k:κ){y:V}{u:Value}(ry:bi y u):KV (cF kvs k y) (stored vs k u):=by
 unfold cF stored;rw[r.any k]
 by_cases e:(vs.any λa=>decide (a.1=k))=true
 ·rw[q07 e,q07 e];exact r.repl k ry
 ·rw[q06 e,q06 e];exact Paired.snoc r ⟨rfl,ry⟩
theorem KV.length{kvs:List (κ×V)}{vs:List (κ×Value)}(r:KV kvs vs):kvs.length=vs.length:=Paired.length r
end
theorem tD{u:Value}(r:bi (kV k) u):(cI P w).is k u=true:=by
 cases k with
 |inl i=>obtain⟨t,e⟩:=(show ∃t,u=Value.int i t from r);subst e;exact xv P w i t
 |inr x=>obtain⟨t,e⟩:=(show ∃t,u=Value.str x t from r);subst e;exact wn P w x t
theorem ue:∀{ks:List c8} {us:Na},bd (ks.map kV) us->ItemsAre (cI P w) ks us
 | [],_,r=>by rw[List.map_nil]at r;cases r;exact .nil
 |k::ks,_,r=>by
  rw[MF]at r;cases r with
  |cons h t=>exact .cons (tD h) (ue t)
abbrev KT(H:Hp):List (List c8×V)->List (List c8×Addr×Value)->Prop:=Paired λp q=>p.1=q.1/\H q.2.1=some (.tup (p.1.map kV))/\bi p.2 q.2.2
theorem KT.val(r:KT H kvs xs)(k:List c8):kr (cn kvs k) ((atKey xs k).map (·.2)):=by
 induction r with
 |nil=>exact True.intro
 | @cons p q ps qs h t ih=>
  obtain⟨h1,_,h2⟩:=h
  by_cases e:p.1=k
  ·have a:q.1=k:=h1.symm.trans e
   have b:atKey (q::qs) k=some q.2:=by simp[atKey,List.find?_cons,a]
   rw[cU e,b];exact h2
  ·have a:¬ q.1=k:=λz=>e (h1.trans z)
   have b:atKey (q::qs) k=atKey qs k:=by simp[atKey,List.find?_cons,a]
   rw[cV e,b];exact ih
theorem KT.repl(r:KT H kvs xs)(k:List c8){y:V}{u:Value}(ry:bi y u) :
  KT H (kvs.map λkv=>if kv.1=k then(kv.1,y) else kv) (xs.map (putAt k u)):=by
 induction r with
 |nil=>exact .nil
 | @cons p q ps qs h t ih=>
  rw[MF,MF];refine .cons ?_ ih;obtain⟨h1,h2,a⟩:=h;unfold putAt
  by_cases e:p.1=k
  ·rw[q07 e,q07 (h1.symm.trans e)];exact⟨h1,h2,ry⟩
  ·rw[q06 e,q06 (λz=>e (h1.trans z))];exact⟨h1,h2,a⟩
theorem KT.put(r:KT H kvs xs)(k:List c8){b:Addr}{y:V}{u:Value}(hb:H b=some (.tup (k.map kV)))(ry:bi y u) :
  KT H (cF kvs k y) (storedH xs k b u):=by
 have e:(kvs.any λa=>decide (a.1=k))=(atKey xs k).isSome:=by
  rw[fT,(r.val k).isSome_eq,Option.isSome_map]
 unfold cF storedH;rw[e]
 by_cases q:(atKey xs k).isSome=true
 ·rw[q07 q,q07 q];exact r.repl k ry
 ·rw[q06 q,q06 q];exact Paired.snoc r ⟨rfl,hb,ry⟩
theorem KT.keeps{H':Hp}(r:KT H kvs xs)(ht:∀b ys,H b=some (.tup ys)->H' b=some (.tup ys)):KT H' kvs xs:=
 Paired.mapP r λ_ _ z=>⟨z.1,ht _ _ z.2.1,z.2.2⟩
section
variable {P:Nf}{w:Ni}{H:Hp}{h:Heap}{a:Addr}
theorem Gy(ok:kS P w H h)(e:Rd H a u):bX P w H h a u:=e.ok ok
theorem uf(ok:kS P w H h)(e:Rd H a (.dK kvs)):kvs.length<=sizeLine/\(a==sysModules)=false/\∃vs,KV kvs vs/\h.DictOf (cI P w) a vs:=
 show bX P w H h a (.dK kvs) from Gy ok e
theorem Dx(ok:kS P w H h)(e:H a=some (.dK kvs)):kvs.length<=sizeLine/\(a==sysModules)=false/\∃vs,KV kvs vs/\h.DictOf (cI P w) a vs:=uf ok (.inl e)
theorem wk{ks:List c8}(ok:kS P w H h)(e:H a=some (.tup (ks.map kV))):(tupleKind (cI P w)).is h ks a:=by
 obtain⟨_,b,r,o,h1,h2,n,c⟩:=(show bX P w H h a (.tup (ks.map kV)) from ok a _ e);exact⟨o,b.toArray,n,h1,h2,c,by simpa using ue r⟩
theorem wZ(ok:kS P w H h)(e:Rd H a (.dT kvs)):kvs.length<=sizeLine/\(a==sysModules)=false /\
  ∃xs,KT H kvs xs/\h.DictOfH (tupleKind (cI P w)) a xs:=by
 obtain⟨z,y,xs,r,o,j,k,h1,h2,g,c,b⟩:=(show bX P w H h a (.dT kvs) from Gy ok e);refine⟨z,y,xs,r,o,j,k,h1,h2,g,c,λx hx=>?_,b⟩;have all:∀{l:List (List c8×V)} {m:List (List c8×Addr×Value)},KT H l m->∀x∈m,(tupleKind (cI P w)).is h x.1 x.2.1:=by
  intro l m q
  induction q with
  |nil=>intro x hx;exact nomatch hx
  | @cons p q ps qs hq t ih=>
   intro x hx;rcases Mq.mp hx with e | hx
   ·subst e
    exact wk ok (by rw[<- hq.1];exact hq.2.1)
   ·exact ih x hx
 exact all r x hx
theorem Iq(ok:kS P w H h)(e:H a=some (.dT kvs)):kvs.length<=sizeLine/\(a==sysModules)=false /\
  ∃xs,KT H kvs xs/\h.DictOfH (tupleKind (cI P w)) a xs:=wZ ok (.inl e)
end
def pA(H:Hp)(a:Addr)(y:V)(r:Option V):Prop:=
 (∃kvs k,Rd H a (.dK kvs)/\y=kV k/\r=cn kvs k)\/∃kvs k b,Rd H a (.dT kvs)/\y=.ref b/\H b=some (.tup (k.map kV))/\r=cn kvs k
def CJ(H:Hp)(a:Addr)(y v:V)(H':Hp):Prop:=
 (∃kvs k,H a=some (.dK kvs)/\y=kV k/\kvs.length<sizeLine/\H'=aA H a (.dK (cF kvs k v))) \/
 ∃kvs k b,H a=some (.dT kvs)/\y=.ref b/\H b=some (.tup (k.map kV))/\kvs.length<sizeLine/\H'=aA H a (.dT (cF kvs k v))
theorem pA.t{H:Hp}{k:List c8}(e:H a=some (.dT kvs))(eb:H b=some (.tup (k.map kV))):pA H a (.ref b) (cn kvs k):=.inr ⟨kvs,k,b,.inl e,rfl,eb,rfl⟩
theorem CJ.t{H:Hp}{k:List c8}{v:V}(e:H a=some (.dT kvs))(eb:H b=some (.tup (k.map kV)))(hl:kvs.length<sizeLine) :
  CJ H a (.ref b) v (aA H a (.dT (cF kvs k v))):=.inr ⟨kvs,k,b,e,rfl,eb,hl,rfl⟩
section
variable {X:Cx}{pins:M7}{σ:St}{H:Hp}{s:M9}{a:Addr}{y v:V}{u r:Value}{o:Option V}{A:Nh}{E:M5}
theorem Inv.big(I:Inv X pins σ H s):sysModules<s.heap.objs.size:=by
 have h:mainGlobals<s.heap.objs.size:=(I.mod.glob.keeps I.bk).lt;exact Nat.lt_trans nofun h
theorem BK{Q:M5}(hu:A.units+1<cLine)(I:Inv X pins σ H s)(g:pA H a y (some v))(ry:bi y u)(h:∀w' s',Inv X pins σ H s'->bi v w'->Q w' s') :
  wpAny c⁻¹ A (getItem (.ref a) u) Q E s:=by
 rcases g with⟨m,k,e,r,l⟩ | ⟨m,k,b,e,r,D,l⟩
 ·subst r
  obtain⟨z,C,vs,j,w⟩:=uf I.hok e;obtain⟨w',n,c⟩:=kr.some_of (v:=v) (o:=valueAt vs k) (by rw[l];exact j.val k);exact wpAny_getItem_of (tD ry) w.mapOf n (h w' _ (I.tok _) c)
 ·subst r
  cases(show u=Value.ref b from ry);obtain⟨z,C,x,j,w⟩:=wZ I.hok e;obtain⟨w',n,c⟩:=kr.some_of (v:=v) (o:=(atKey x k).map (·.2)) (by rw[l];exact j.val k);obtain⟨p,B,q⟩:=MC.mp n;refine wpAny_getItem_heap (tupleKind_room_in1 hu) (wk I.hok D) w B ?_;rw[q];exact h w' _ (I.tok _) c
theorem Gd{Q:M5}(hu:A.units+1<cLine)(I:Inv X pins σ H s)(g:pA H a y o)(ry:bi y u)(h:∀s',Inv X pins σ H s'->Q (.bool (!o.isSome)) s') :
  wpAny c⁻¹ A (compareOp .NotIn u (.ref a)) Q E s:=by
 rcases g with⟨j,k,e,n,l⟩ | ⟨j,k,b,e,n,r,l⟩
 ·subst n
  obtain⟨z,m,vs,c,p⟩:=uf I.hok e;refine wpAny_notIn_of (tD ry) m p.mapOf ?_;rw[<- (c.val k).isSome_eq,<- l];exact h _ (I.tok _)
 ·subst n
  cases(show u=Value.ref b from ry);obtain⟨z,m,xs,c,p⟩:=wZ I.hok e;refine wpAny_notIn_heap (tupleKind_room_in1 hu) (wk I.hok r) m p ?_;have q:=(c.val k).isSome_eq;rw[Option.isSome_map]at q;rw[<- q,<- l];exact h _ (I.tok _)
theorem pT{t':Nat}{ob:HO}(I:Inv X pins σ H s)(mu:Iv (H a))(hs:Heap.SameBut a s.heap h')(he:∃q,h'.get? a=some q)(new:bX X.prog X.w (aA H a ob) h' a ob) :
  Inv X pins σ (aA H a ob) {s with heap:=h',toks:=t' }:=
 I.write (x:=a) (e:=a) mu (.inl rfl) (λb q hb z=>(hs.2 b hb).trans z) he new
theorem zu{h':Heap}{kvs:List (c8×V)}(z:kvs.length<=sizeLine)(hd:(a==sysModules)=false)(rel:KV kvs vs)(dd:h'.DictOf (cI P w) a vs) :
  bX P w H' h' a (.dK kvs):=⟨z,hd,vs,rel,dd⟩
theorem Bx{Q:Unit->Shared->Prop}(hu:A.units+1<cLine)(I:Inv X pins σ H s)(g:CJ H a y v H')(ry:bi y u)(rv:bi v r)(h:∀s',Inv X pins σ H' s'->Q () s') :
  wpAny c⁻¹ A (setItem (.ref a) u r) Q E s:=by
 rcases g with⟨m,k,e,C,l,D⟩ | ⟨m,k,b,e,C,M,l,D⟩
 ·subst C D
  obtain⟨z,B,vs,j,G⟩:=Dx I.hok e;have p:vs.length<=sizeLine:=by rw[<- j.length];exact z
  have x:(cF m k v).length<=sizeLine:=by have:=hJ m k v;omega
  refine wpAny_setItem_pairs (hsz:=p) (tD ry) G λJ n w=>h _ ?_;have R:∃q,J.get? a=some q:=let ⟨q,_,_,o,_⟩:=n;⟨q,o⟩
  exact pT I (by rw[e];exact True.intro) w R (zu x B (j.put k rv) n)
 ·subst C D
  cases(show u=Value.ref b from ry);obtain⟨z,B,O,j,G⟩:=Iq I.hok e;have p:O.length<=sizeLine:=by rw[<- Paired.length j];exact z
  have x:(cF m k v).length<=sizeLine:=by have:=hJ m k v;omega
  refine wpAny_setItem_heap (hsz:=p) (tupleKind_room_in1 hu) (wk I.hok M) G λJ n w=>h _ ?_;obtain⟨q,Y,Z,o,h2,U,T,_,S⟩:=n;refine pT I (by rw[e];exact True.intro) w ⟨q,o⟩ ⟨x,B,_,(j.put k M rv).keeps λc ys L=>?_,q,Y,Z,o,h2,U,T,S⟩;rw[ao (Ik L e (λz=>nomatch z))];exact L
end
section
variable {X:Cx}{pins:M7}{σ:St}{H:Hp}{s:M9}{a:Addr}{kvs:List (c8×V)}{k:c8}{u:Value}{A:Nh}{E:M5}
theorem IJ{Q:M5}(I:Inv X pins σ H s)(e:Rd H a (.dK kvs))(h:∀t s',Inv X pins σ H s'->Q (.int kvs.length t) s'):wpAny c⁻¹ A (call (.builtin "len") [.ref a]) Q E s:=by
 obtain⟨z,c,vs,b,g⟩:=uf I.hok e;refine call_len_dict c g (by rw[<- b.length];rw[q0S]at z;omega) ?_;rw[<- b.length];exact h _ _ (I.tok _)
end
def IC(i:Expr):Prop:=∀ov iv,subscripted i false ov iv=operate [ov,iv] (getItem ov iv)
theorem FW{prog:Nf}{A:Nh}{env:Env}{value slice:Expr}{pos:Pos}{id:String}{Q:M5}
  (hl:typeLookup (.type T) "__getitem__"=pure (some (.builtin id))) (hs:IC slice)
  (h:wpAny d⁻¹ A (eval value env) (λo s₁=>wpAny d⁻¹ A (eval slice env) (λi s₂=>s₂.TypeIs o T/\wpAny d⁻¹ A (getItem o i) Q E s₂) E s₁) E s) :
  wpAny d⁻¹ A (eval (.Subscript value slice pos) env) Q E s:=by
 refine Subscript_ (q0T h (λo s₁ j=>q0T j (λi s₂ b=>?_) λ_ _ x=>x) λ_ _ x=>x);obtain⟨e,b⟩:=b;unfold subscriptTail;refine q04 ?_;rw[getitemInPython_of_ne e.not_modules];refine q04 (wpAny_specialOf e hl ?_);have a:wpAny d⁻¹ A (subscripted slice false o i) (λr c=>wpAny d⁻¹ A (letTemporaryGo value o r >>= λ_=>pure r) Q E c) E s₂:=by
  rw[hs o i];exact wpAny_operating (q0T b (λr c g=>q04 (wpAny_letTemporaryGo (q05 g))) λ_ _ x=>x)
 first
  |exact q05 (q04 a)
  |exact q04 (q05 (q04 a))
  |exact q04 a
theorem xI{pins:M7}{σ:St}(I:Inv X pins σ H s)(g:pA H a y o):s.TypeIs (.ref a) "dict":=by
 rcases g with⟨c,k,e,_,_⟩ | ⟨c,k,b,e,_,_,_⟩
 ·obtain⟨_,_,vs,_,j⟩:=uf I.hok e
  exact j.typeIs
 ·obtain⟨_,_,xs,_,j⟩:=wZ I.hok e
  exact j.typeIs
def Dy(td ty:TE):TE:=λσ H Q=>td σ H λx H1=>ty σ H1 λy H2=>∃a v,x=.ref a/\pA H2 a y (some v)/\Q v H2
def vp(ty td:TE):TE:=λσ H Q=>ty σ H λy H1=>td σ H1 λx H2=>∃a o,x=.ref a/\pA H2 a y o/\Q (.bl (!o.isSome)) H2
def Eo(td ty tv:TE):TS:=λD σ H=>tv σ H λv H1=>td σ H1 λx H2=>ty σ H2 λy H3=>∃a H4,x=.ref a/\CJ H3 a y v H4/\D.nx σ H4
section
variable {X:Cx}{o i e value:Expr}{pos pos' tpos:Pos}{td ty tv:TE}
theorem vo(hu:X.A.units+1<cLine)(ho:PE X o td)(hi:PE X i ty)(hs:IC i):PE X (.Subscript o i pos) (Dy td ty):=by
 intro b s σ H Q I h;refine FW PySem.F.slot_dict_getitem.lookup hs (bV (ho b s σ H _ I h) λu j ⟨x,B,r,l,n⟩=>bV (hi b j σ B _ r n) λiv s2 ⟨y,w,e,k,a,v,p,g,m⟩=>?_);subst p;obtain rfl:u=Value.ref a:=l;exact⟨xI e g,BK hu e g k λw' s3 q c=>⟨v,w,q,c,m⟩⟩
theorem tT(hu:X.A.units+1<cLine)(hi:PE X i ty)(ho:PE X o td):PC X .NotIn i o (vp ty td):=by
 intro b s σ H Q I h;refine bV (hi b s σ H _ I h) λiv c ⟨y,w,r,e,l⟩=>bV (ho b c σ w _ r l) λu s2 ⟨x,v,q,j,a,m,n,g,k⟩=>?_;subst n;obtain rfl:u=Value.ref a:=j;exact Gd hu q g e λs3 p=>⟨.bl (!m.isSome),v,p,rfl,k⟩
theorem zY(hu:X.A.units+1<cLine)(ho:PE X o td)(hi:PE X i ty)(hv:PE X value tv)(hs:swapsWith value (some (.Subscript o i pos')) pos.line X.env=pure false) :
  PS X (.Assign [.Subscript o i pos'] value pos) (Eo td ty tv):=by
 intro b s σ H D I h;refine wpAny_Assign_Subscript (bV (hv b s σ H _ I h) λr e ⟨v,M,G,l,p⟩=>bV (ho b e σ M _ G p) λu c ⟨x,L,C,k,n⟩=>bV (hi b c σ L _ C n) λiv s3 ⟨y,H3,B,j,a,J,q,g,m⟩=>?_) hs;subst q;obtain rfl:u=Value.ref a:=k;exact Bx hu B g j l λs4 w=>⟨σ,J,w,m⟩
end
theorem EN(h:Heap)(hb:sysModules<h.objs.size):bX P w H (h.push {cls:=.type "dict",data:=.dict #[]}) h.objs.size (.dK []):=
 ⟨Mz _,beq_eq_false_iff_ne.mpr (Ne.symm (Mu hb)),[],.nil,Heap.DictOf.new h⟩
theorem Dr(h:Heap)(hb:sysModules<h.objs.size):bX P w H (h.push {cls:=.type "dict",data:=.dict #[]}) h.objs.size (.dT []):=
 ⟨Mz _,beq_eq_false_iff_ne.mpr (Ne.symm (Mu hb)),[],.nil,_,#[],0,Mg _ rfl,⟨rfl,rfl,rfl⟩,rfl,rfl,List.nodup_nil⟩
def yz:TE:=λ_ H Q=>∀p,H p=none->Q (.ref p) (aA H p (.dT []))
section
variable {X:Cx}{pos:Pos}
theorem xk:PE X (.Dict [] [] pos) yz:=λpins s σ H Q I h=>
 wpAny_Dict_empty ⟨.ref s.heap.objs.size,_,I.laid (a:=s.heap.objs.size) (o:=.dT []) (t':=s.toks) (λ_ _ q=>Ma _ q) (My _) (Dr s.heap I.big),rfl,h _ (I.hok.fresh (My _))⟩
end
def rQ:List (TE×TE)->St->Hp->(List (V×V)->Hp->Prop)->Prop
 | [],_,H,Q=>Q [] H
 | (tk,tv)::r,σ,H,Q=>tk σ H λx H1=>tv σ H1 λy H2=>rQ r σ H2 λps H3=>Q ((x,y)::ps) H3
abbrev VV:List (V×V)->List (Value×Value)->Prop:=Paired λp q=>bi p.1 q.1/\bi p.2 q.2
def IT(X:Cx)(pos:Pos)(keys:List (Option Expr))(values:Nk)(trs:List (TE×TE)):Prop:=
 ∀(pins:M7) (s:M9) (σ:St) (H:Hp) (Q:List (V×V)->Hp->Prop),Inv X pins σ H s->rQ trs σ H Q ->
  wpAny c⁻¹ X.A (evalPairs (pairTrees keys values X.env pos)) (λvs s'=>∃ps H',Inv X pins σ H' s'/\VV ps vs/\Q ps H') X.xe s
theorem Fv{pos:Pos}:IT X pos [] [] []:=λpins s σ H Q I h=>pairTrees_nil_walk ⟨[],H,I,.nil,h⟩
theorem E5{pos:Pos}{k v:Expr}{ks:List (Option Expr)}{tk tv:TE}{trs:List (TE×TE)}(hk:PE X k tk)(hv:PE X v tv)(hr:IT X pos ks vs trs) :
  IT X pos (some k::ks) (v::vs) ((tk,tv)::trs):=λpins s σ H Q I h=>
 pairTrees_cons_walk (bV (hk pins s σ H _ I h) λu s1 ⟨x,H1,I1,rx,q1⟩=>bV (hv pins s1 σ H1 _ I1 q1) λw2 s2 ⟨y,H2,I2,ry,q2⟩=>
  bV (hr pins s2 σ H2 _ I2 q2) λws s3 ⟨ps,H3,I3,rel,q3⟩=>⟨(x,y)::ps,H3,I3,.cons ⟨rx,ry⟩ rel,q3⟩)
def qw(kvs more:List (c8×V)):List (c8×V):=more.foldl (λacc kv=>cF acc kv.1 kv.2) kvs
theorem KV.merge:∀{more:List (c8×V)} {rs:List (c8×Value)} {kvs:List (c8×V)} {vs:List (c8×Value)},KV more rs->KV kvs vs->KV (qw kvs more) (merged vs rs):=by
 intro more rs kvs vs r;unfold KV at r
 induction r generalizing kvs vs with
 |nil=>intro q;exact q
 | @cons p q ps qs h t ih=>
  intro a;have e:KV (cF kvs p.1 p.2) (stored vs q.1 q.2):=by
   have:=a.put p.1 h.2;rw[<- h.1];exact this
  exact ih e
theorem lW:∀(more kvs:List (c8×V)),(qw kvs more).length<=kvs.length+more.length
 | [],kvs=>by show kvs.length<=kvs.length+0;omega
 |p::r,kvs=>by
  have h1:=lW r (cF kvs p.1 p.2);have h2:=hJ kvs p.1 p.2;show(qw (cF kvs p.1 p.2) r).length<=_;rw[Mm];omega
theorem qW:∀{kvs:List (c8×V)} {ws:List (Value×Value)},VV (kvs.map λkv=>(kV kv.1,kv.2)) ws->∃rs,Carries (cI P w) ws rs/\KV kvs rs
 | [],_,r=>by rw[List.map_nil]at r;cases r;exact⟨[],True.intro,.nil⟩
 |p::kvs,_,r=>by
  rw[MF]at r;cases r with
  | @cons a b as bs h t=>
   obtain⟨rs,c,q⟩:=qW (P:=P) (w:=w) t;obtain⟨b1,b2⟩:=b;exact⟨(p.1,b2)::rs,⟨tD h.1,rfl,c⟩,.cons ⟨rfl,h.2⟩ q⟩
def Es(trs:List (TE×TE)):TE:=λσ H Q=>∀p,H p=none->rQ trs σ (aA H p (.dK [])) λps H2=>H2 p=some (.dK [])/\∃kvs:List (c8×V),ps=kvs.map (λkv=>(kV kv.1,kv.2))/\kvs.length<=15/\Q (.ref p) (aA H2 p (.dK (qw [] kvs)))
theorem Ft{pos:Pos}{keys:List (Option Expr)}{values:Nk}{trs:List (TE×TE)}(h:IT X pos keys values trs)(hall:keys.all (·.isSome)=true)(hl:keys.length=values.length)(h0:keys≠[])
  (h15:keys.length<=15):PE X (.Dict keys values pos) (Es trs):=by
 intro b s σ H Q I q;have x:=I.hok.fresh (My s.heap.objs.size);have G:=I.laid (a:=s.heap.objs.size) (o:=.dK []) (h':=s.heap.push {cls:=.type "dict",data:=.dict #[]}) (t':=s.toks) (λ_ _ q=>Ma _ q) (My _) (EN s.heap I.big);refine wpAny_Dict_walk (knd:=cI X.prog X.w) hall hl h0 h15 (bV (h b _ σ _ _ G (q _ x)) λws s2 ⟨ps,H2,l,k,e,g,C,lk,r⟩=>?_);subst C;obtain⟨m,c,n⟩:=qW (P:=X.prog) (w:=X.w) k;obtain⟨z,B,vs0,p,D⟩:=Dx l.hok e;cases p;refine⟨m,c,D,λh' j v=>⟨.ref s.heap.objs.size,_,?_,rfl,r⟩⟩;have u:(qw [] g).length<=sizeLine:=by
  have h1:=lW g [];rw[List.length_nil]at h1;rw[q0S];omega
 have y:∃q,h'.get? s.heap.objs.size=some q:=let ⟨q,_,_,hq,_⟩:=j;⟨q,hq⟩
 exact pT l (by rw[e];exact True.intro) v y (zu u B (n.merge .nil) j)
structure M1(X:Cx)(o:Expr)(m:Str)(apos:Pos)(e:Expr)(cpos:Pos):Prop where
 base:attributeBase o m X.env (eval o X.env)=eval o X.env
 few:((backTo cpos (starEach [e] X.env)).all (λx=>!x.1)&&(backToKw cpos (keywordEach [] X.env)).all (λx=>x.1.isSome)
  && decide (([e]:List Expr).length+([]:List Keyword).length+(if([]:List Keyword).isEmpty then 0 else 1)<30))=true
 line:(apos.endLine==cpos.line)=true
 trees:backTo cpos (starEach [e] X.env)=[(false,eval e X.env)]
structure M2(X:Cx)(o:Expr)(m:Str)(apos:Pos)(e f:Expr)(cpos:Pos):Prop where
 base:attributeBase o m X.env (eval o X.env)=eval o X.env
 few:((backTo cpos (starEach [e,f] X.env)).all (λx=>!x.1)&&(backToKw cpos (keywordEach [] X.env)).all (λx=>x.1.isSome)
  && decide (([e,f]:List Expr).length+([]:List Keyword).length+(if([]:List Keyword).isEmpty then 0 else 1)<30))=true
 line:(apos.endLine==cpos.line)=true
 trees:backTo cpos (starEach [e,f] X.env)=[(false,eval e X.env),(false,eval f X.env)]
def JR(H:Hp)(a:Addr):Prop:=(∃kvs,Rd H a (.dK kvs))\/∃kvs,Rd H a (.dT kvs)
theorem HD{pins:M7}{σ:St}(I:Inv X pins σ H s)(d:JR H a) :
  s.TypeIs (.ref a) "dict"/\(∀b,Value.ref a=.ref b->∃ob,s.heap.get? b=some ob/\ob.dict=none)/\(a==sysModules)=false:=by
 rcases d with⟨g,e⟩ | ⟨g,e⟩
 ·obtain⟨_,j,vs,_,c⟩:=uf I.hok e
  refine⟨c.typeIs,λb q=>?_,j⟩;cases q;obtain⟨ob,_,_,h1,h2,_⟩:=c;exact⟨ob,h1,h2.2.1⟩
 ·obtain⟨_,j,xs,_,c⟩:=wZ I.hok e
  refine⟨c.typeIs,λb q=>?_,j⟩;cases q;obtain⟨ob,_,_,h1,h2,_⟩:=c;exact⟨ob,h1,h2.2.1⟩
end L2
namespace Att
open PySem PySem.W PySem.Calls PyProof.Rows
theorem pC:∀(ns:List Int) (vs:Na),WellAll P h vs (ns.map WData.int)->IntsAre vs ns:=by
 intro ns
 induction ns with
 |nil=>
  intro vs w;rw[List.map_nil]at w;cases w;exact .nil
 |cons n ns ih=>
  intro vs w;rw[MF]at w;cases w with
  |cons a b=>
   cases a;exact .cons _ _ (ih _ b)
theorem Cl{l:OpenLaw}{n:Nat}(hn:l.most=some n){P:Params}{h:Heap}{args:List WData}{vals:Na}
  (hpre:l.row.toRowW.claim.pre args=true) (hwl:WellAll P h vals args) :
  ∃a vs ns,vals=[Value.ref a]/\args=[WData.list (ns.map WData.int)]/\h.get? a=some {cls:=.type "list",data:=.seq vs.toArray}/\IntsAre vs ns/\ns.length<=n:=by
 have g:WShape.hasAll [] args [.list .int]=true:=(pre_splitW hpre).1;have j:l.pre.holds [] {args:=args}=true:=(pre_splitW hpre).2;obtain⟨d,r,rfl,h1,h2⟩:=hasAllW_cons g;obtain rfl:=hasAllW_nil h2;obtain⟨xs,rfl,m⟩:=hasW_list h1;obtain⟨ns,rfl⟩:=items_int m;have b:ns.length<=n:=by
  unfold OpenLaw.pre at j;have e:(WTm.not (.lt (.lit (.int (n:Int))) (.len (.arg 0)))).holds [] {args:=[.list (ns.map .int)]}=true:=by
   have e:=(holds_andW j).1;rw[hn]at e;exact e
  have c:=condW_of e (w_not (w_lt w_lit (w_len_list (w_arg rfl))));rw[Mb]at c;refine Nat.le_of_not_lt λq=>?_;have k:(n:Int)<((ns.length:Nat):Int):=by omega
  first
   | (rw[q09 k]at c;exact q0O c nofun)
   | (simp at c;omega)
 cases hwl with
 |cons w1 w2=>
  cases w2;cases w1 with
  |list ho hall=>exact⟨_,_,ns,rfl,rfl,ho,pC ns _ hall,b⟩
theorem Cv(l:OpenLaw)(args:List WData):l.row.toRowW.claim.post args (.bool true) args=true:=
 postW_of (r:=l.row.toRowW) (X:=(true==true))
  (show WShape.has [] (.bool true) .bool=true by first | rfl | decide | simp[WShape.has,WShape.arms,WShape.armsAll])
  (show(WTm.eq .res (.lit (.bool true))).value [] {args:=args,res:=some (.bool true),after:=args}=some (.bool (true==true)) from w_eq_bool (w_res rfl) w_lit) rfl
theorem attach_call{l:OpenLaw}{n:Nat}{loose:Ng}{XP:(Str->Option Value)->Heap->Prop}{YP:World->Heap->Prop}{d:DefRec}
  (hn:l.most=some n) (hdf:d.params.defaults=[])
  (call:∀(w:Ni) (s₀ s₁:M9) (mg mb:Nc) (fa:Addr) (o:Obj) (pm cd doc:Value) (a:Addr) (vs:Na) (ns:List Int),
   Ground q loose [] XP w s₀ mg mb s₁.heap->YP w s₁.heap ->
   s₁.heap.get? fa=some o->o.data=.func (docDef d.name d.params d.body d.scope pm cd doc)->s₁.heap.CodeRec cd d.name->mg d.name=some (.ref fa) ->
   s₁.heap.get? a=some {cls:=.type "list",data:=.seq vs.toArray}->IntsAre vs ns->ns.length<=n->s₁.gens=#[] ->
   codeAny (model l.prog w) callerA (.call (.ref fa) ⟨[.ref a],[]⟩) (λr s'=>r=.ok (.ret (.bool true))/\OldK s₁.heap s'.heap/\s'.os=s₁.os/\AllBare s'.gens) s₁) :
  WalkO q loose XP YP l.row.toRowW d [] (λf vs=>PySem.call f vs):=by
 intro w s₀ s₁ mg mb G Y fa o pm cd doc I kV v B m p k y args vals as c hlay hrd j hlo;obtain rfl:I=.none:=Dflts.none p hdf;obtain rfl:kV=.none:=Dflts.noKw p;obtain⟨a,vs,ns,rfl,rfl,e,b,g⟩:=Cl hn c j;refine enter_call (codeAny_mono (call w s₀ s₁ mg mb fa o pm cd doc a vs ns G Y v (fd_plain B) m k e b g y) λr s' u=>?_);obtain⟨rfl,h2,D,C⟩:=u;exact⟨.inl ⟨.bool true,.bool true,[],rfl,λ_=>rfl,.bool true,Cv l _,λ_=>⟨List.Pairwise.nil,λ_ x=>(nomatch x)⟩⟩,h2,D,C⟩
section
variable {prog:Nf}{w:Ni}{A:Nh}{E:M5}{s:M9}{K:Frag}
end
end Att
namespace L2
open PySem PySem.Spec PyProof.Rows
theorem tO:∀{vs:Na} {ns:List Int},IntsAre vs ns->bd (ns.map V.int) vs
 |_,_,.nil=>.nil
 |_,_,.cons n t h=>.cons ⟨t,rfl⟩ (tO h)
def G_(H:Hp):Prop:=∀b,H b=none\/∃o xs,H b=some (.frz o (.lst xs))
theorem DC{K:M6}{mg mb:Nc}{CX:kT}{fa a:Addr}{x:Str}{sp:Sp}{s₁:M9}{vs:Na}
  (KX:K.In s₁.heap) (hns:s₁.heap.Ns mainGlobals mg) (hb:s₁.heap.Ns builtinsNs mb) (hbb:∀x:Str,x≠"__name__"->mb x=bootBuiltins x) (hlim:s₁.heap.NoLimit) (hg:s₁.gens=#[])
  (ha:s₁.heap.get? a=some {cls:=.type "list",data:=.seq vs.toArray}) (hi:IntsAre vs ns) (hl:ns.length<=sizeLine) (hr:dh k callerA)
  (F:∀base:Heap,K.In base->base.Ns mainGlobals mg->aT P w K mg base CX k fa fd [x] sp) (hbind:∀(s:M9) (u:Value),BindsTo s fd ⟨[u],[]⟩ [(x,u)])
  (hsp:∀H:Hp,G_ H->aO K H a (ns.map V.int)->sp [.ref a] H (λv _=>v=.bl true) λ_ _ _=>False)
  (hCX:∀H e s',CX [] H s₁ (λ_ _ _=>False) e s'->False) :
  codeAny (model P w) callerA (.call (.ref fa) ⟨[.ref a],[]⟩) (λr s'=>r=.ok (.ret (.bool true))/\OldK s₁.heap s'.heap/\s'.os=s₁.os/\AllBare s'.gens) s₁:=by
 have L:=tO hi;have p:=hi.length
 -- from an abstract heap in which nothing but the script may be tracked
 have j:∀H:Hp,G_ H->aO K H a (ns.map V.int)->kS P w H s₁.heap->(∀b,H b≠none->b=a)->(H a≠none->K.lookup a=none) ->
   codeAny (model P w) callerA (.call (.ref fa) ⟨[.ref a],[]⟩) (λr s'=>r=.ok (.ret (.bool true))/\OldK s₁.heap s'.heap/\s'.os=s₁.os/\AllBare s'.gens) s₁:=by
  intro H M Z B O hK;have c:∀{b:Addr} {o:Obj},s₁.heap.get? b=some o->H b=none->(vY s₁.heap H).get? b=some o:=λe n=>Ew e n;have G:∀{b:Addr} {o:Obj} {es:Array DictEntry} {ep:Nat},s₁.heap.get? b=some o->o.data=.dict es ep->H b=none:=fun{b o es ep} e d=>by
   cases q:H b with
   |none=>rfl
   |some u=>
    have J:b=a:=O b (by rw[q];simp);subst J;rw[ha]at e;cases e
    have d':Data.seq vs.toArray _=Data.dict es ep:=d;cases d'
  have g:∀{b:Addr} {m:Nc},s₁.heap.Ns b m->(vY s₁.heap H).Ns b m:=fun{b m} ⟨o,es,ep,e,d,r⟩=>⟨o,es,ep,c e (G e d),d,r⟩;have C:K.In (vY s₁.heap H):=λb o e=>c (KX b o e) (by
   cases q:H b with
   |none=>rfl
   |some u=>
    have J:b=a:=O b (by rw[q];simp);subst J;rw[hK (by rw[q];simp)]at e;cases e)
  have hM:Mod K mg (vY s₁.heap H):=⟨C,g hns,⟨mb,g hb,hbb⟩,let ⟨mc,h1,h2⟩:=hlim;⟨mc,g h1,h2⟩⟩;have e0:wq P w K mg (vY s₁.heap H) callerA [] s₁ H:=⟨rfl,hM,λb o e=>Gp e,Nat.le_of_eq (Bi _ _),trivial,λb hb=>q0O (show b∈([]:List Addr) from hb) (by simp),B,.of_eq hg⟩;refine codeAny_mono ((F _ C (g hns)).run callerA [] s₁ H ⟨[.ref a],[]⟩ [.ref a] [.ref a] _ _ hr e0 (hbind s₁ (.ref a)) (.cons rfl .nil) (hsp H M Z)) λr s' h=>?_;cases r with
  |error e=>exact(hCX H e s' h).elim
  |ok fl=>
   cases fl with
   |next=>exact False.elim h
   |brk=>exact False.elim h
   |cont=>exact False.elim h
   |ret u=>
    obtain⟨v,H',os,D,un,y,T,q⟩:=h;have U:v=.bl true:=q;subst U;obtain rfl:u=Value.bool true:=T;refine⟨rfl,OldK.of_keep λb o e=>?_,os,D⟩;cases q:H b with
    |none=>exact un.keep b o e q (by intro z;exact q0O (show b∈([]:List Addr) from z) (by simp)) (by simp)
    |some u=>
     rcases M b with z | ⟨Y,xs,z⟩
     ·rw[q]at z;cases z
     ·have S:=un.frzs b Y _ z
      obtain⟨R,_⟩:=B b _ z;obtain⟨e2,_⟩:=y b _ S;rw[e]at R;cases R
      exact e2
 cases I:K.lookup a with
 |some o=>
  -- the script is one of the module's own objects
  have e:=KX a o I;rw[ha]at e;cases e;refine j (λ_=>none) (λ_=>.inl rfl) (.inr ⟨_,vs.toArray,_,I,rfl,rfl,rfl,by rw[Mh,p];exact hl,by simpa using L⟩) (λb u z=>by have l:(none:Option HO)=some u:=z;cases l) (λb z=>q0O rfl z) λz=>q0O rfl z
 |none=>
  refine j (λb=>if b=a then some (.frz {cls:=.type "list",data:=.seq vs.toArray} (.lst (ns.map V.int))) else none) (λb=>?_) (.inl (.inr ⟨{cls:=.type "list",data:=.seq vs.toArray},q07 rfl⟩)) (λb u z=>?_) (λb z=>?_) λ_=>I
  ·by_cases hb:b=a
   ·exact .inr ⟨_,_,q07 hb⟩
   ·exact .inl (q06 hb)
  ·by_cases hb:b=a
   ·have l:=(q07 hb).symm.trans z
    cases l;subst hb;exact⟨ha,by rw[Mb];exact hl,vs,_,L,ha⟩
   ·have l:=(q06 hb).symm.trans z
    cases l
  ·by_cases hb:b=a
   ·exact hb
   ·exact q0O (q06 hb) z
theorem walk_of{l:PySem.W.OpenLaw}{n:Nat}{loose:Ng}{XP:(Str->Option Value)->Heap->Prop}{YP:World->Heap->Prop}{d:DefRec}{K:Params->PySem.W.Frag}{CX:World->kT}{sp:World->Sp}{x:Str}
  (hn:l.most=some n) (hn2:n<=sizeLine) (hdf:d.params.defaults=[]) (hr:dh k callerA)
  (hY:∀(w:Ni) (h:Heap),YP w h->(K w.params).In h)
  (F:∀(w:Ni) (mg:Nc) (fa:Addr) (h:Heap),(K w.params).In h->h.Ns mainGlobals mg->mg d.name=some (.ref fa) ->
   ∃fd:FuncData,(∀(s:M9) (u:Value),BindsTo s fd ⟨[u],[]⟩ [(x,u)]) /\
    ∀base:Heap,(K w.params).In base->base.Ns mainGlobals mg->aT l.prog w (K w.params) mg base (CX w) k fa fd [x] (sp w))
  (hsp:∀(w:Ni) (H:Hp) (a:Addr) (ns:List Int),ns.length<=n->G_ H->aO (K w.params) H a (ns.map V.int)->sp w [.ref a] H (λv _=>v=.bl true) λ_ _ _=>False)
  (hCX:∀(w:Ni) (H:Hp) (s:M9) (e:Value) (s':M9),CX w [] H s (λ_ _ _=>False) e s'->False) :
  PySem.W.WalkO q loose XP YP l.row.toRowW d [] (λf vs=>PySem.call f vs):=by
 refine Att.attach_call hn hdf λw s₀ y mg mb fa o pm cd doc a vs ns G Y ho hd hcd p m j c B=>?_;have r:=hY w _ Y;obtain⟨fd,C,J⟩:=F w mg fa _ r G.T.g p;exact DC r G.T.g G.T.b G.T.builtins G.T.nolimit B m j (MG c hn2) hr J C (λH I D=>hsp w H a ns c I D) λH e s'=>hCX w H y e s'
def ba(s:Stmt):Arguments:=match s with
 | .FunctionDef _ a _ _ _ _ _ _ _ _=>a
 |_=>{posonlyargs:=[],args:=[],vararg:=none,kwonlyargs:=[],kw_defaults:=[],kwarg:=none,defaults:=[]}
def aX(s:Stmt):List Stmt:=match s with
 | .FunctionDef _ _ b _ _ _ _ _ _ _=>b
 |_=>[]
def ak(s:Stmt):Scope:=match s with
 | .FunctionDef _ _ _ _ _ _ sc _ _ _=>sc
 |_=>{kind:=.function,names:=[],isGenerator:=false,isCoroutine:=false}
abbrev bF:kT:=λ_ _ _ _ _ _=>False
abbrev E0:XK:=λ_ _ _=>False
theorem aW:dz bF X E0:=λ_ _ _ _ _ _ _ h=>h.elim
structure cu(K:M6)(x qual:Str)(st:Stmt)(f:Addr)(fd:Nd):Prop where
 ex:∃(oc:Value) (od:Nj) (kV doc pm:Value) (an:Nj) (cdv ct:Value) (osl:Array (Option Value)),
  fd=PySem.W.fnOf x qual (ba st) (aX st) (ak st) .none kV doc pm an cdv ct/\K.lookup f=some ⟨oc,od,.func fd,osl⟩/\PySem.W.codeIn K cdv qual=true
 kp:PySem.W.keepIn K (.ref f)=true
section
variable {P:Nf}{w:Ni}{K:M6}{mg:Nc}{base:Heap}
theorem cu.ok{qual:Str}{st:Stmt}{f:Addr}{ps:Ng}{sp:Sp}(F:cu K x qual st f fd)(S:ay N ps (ak st))(len:∀vs H Q E,sp vs H Q E->vs.length=ps.length)
  (hbody:∀(cdv:Value) (A:Nh) (outer:List Env) (s:M9) (H:Hp) (vs:List V) (Q:VK) (E:XK),dh k (A.deeper (envOfC qual (ak st) s.heap.objs.size f cdv))->sp vs H Q E ->
   ∃t,wz (gO bF P w K mg base N qual (ak st) f cdv A outer s H E).nox (aX st) t/\t {nx:=λ_ H'=>Q .non H',rt:=Q} (start N vs) H):↑aT (k+1) f fd ps sp:=by
 obtain⟨oc,od,kV,doc,pm,an,cdv,ct,osl,rfl,c,b⟩:=F.ex;refine GB c b S len λA outer s H vs Q E hr a=>?_;obtain⟨t,h,q⟩:=hbody cdv A outer s H vs Q E hr a;exact⟨t,h.nox,q⟩
theorem cu.binds{qual:Str}{st:Stmt}{f:Addr}{ps:Ng}(F:cu K x qual st f fd)
  (h:∀(kV doc pm:Value) (an:Nj) (cdv ct:Value) (us:Na),us.length=ps.length->bindArgs (PySem.W.fnOf x qual (ba st) (aX st) (ak st) .none kV doc pm an cdv ct) ⟨us,[]⟩=pure (ps.zip us)):bR K fd ps []:=by
 obtain⟨oc,od,kV,doc,pm,an,cdv,ct,osl,rfl,lk,hcd⟩:=F.ex;exact .all (h kV doc pm an cdv ct)
theorem bL{qual:Str}{st:Stmt}{f:Addr}{oc:Value}{od an:Nj}{osl:Array (Option Value)}{kV doc pm cdv ct:Value}(l:K.lookup f=some ⟨oc,od,.func (PySem.W.fnOf x qual (ba st) (aX st) (ak st) .none kV doc pm an cdv ct),osl⟩)
  (c:PySem.W.codeIn K cdv qual=true) (k:PySem.W.keepIn K (.ref f)=true):cu K x qual st f (PySem.W.fnOf x qual (ba st) (aX st) (ak st) .none kV doc pm an cdv ct):=⟨⟨oc,od,kV,doc,pm,an,cdv,ct,osl,rfl,l,c⟩,k⟩
end
section
variable {X:Cx}
theorem pv(i:Nat){x:Str}{pos:Pos}(hN:autoParam (X.N[i]?=some x) zz0._auto_1)(hv:autoParam (IN X.env.scope x) zz6._auto_1)(hd:autoParam j⁻¹ zz1._auto_1)
  (hcd:autoParam ((x==("__classdict__":Str))=false) zz1._auto_1):PE X (.Name x pos) (CI i):=GP hN hv hd hcd
theorem uo:gQ X (.builtin "len") (λxs H Q=>∃a kvs,xs=[V.ref a]/\H a=some (.dK kvs)/\Q (.int kvs.length) H):=by
 intro pins s σ H xs us Q I r h;obtain⟨a,kvs,rfl,c,q⟩:=h;obtain⟨u,rfl,b⟩:=rP r;cases b;exact IJ I (.inl c) λt s' e=>⟨.int kvs.length,H,e,⟨t,rfl⟩,q⟩
end
def aD(H H':Hp):Prop:=∀b o,H b=some o->H' b=some o
theorem aD.refl(H:Hp):aD H H:=λ_ _ h=>h
theorem aD.trans(a:aD H H1)(b:aD H1 H2):aD H H2:=λc o h=>b c o (a c o h)
theorem aD.free(e:aD H H'){l:Addr}(h:H' l=Option.none):H l=Option.none:=by
 cases q:H l with
 |none=>rfl
 |some o=>
  rw[e l o q]at h;cases h
theorem aD.seq{K:M6}(e:aD H H')(h:aO K H a xs):aO K H' a xs:=by
 rcases h with(h | ⟨o,h⟩) | h
 ·exact .inl (.inl (e _ _ h))
 ·exact .inl (.inr ⟨o,e _ _ h⟩)
 ·exact .inr h
section
variable {κ:Type}[DecidableEq κ]
theorem wJ{kvs:List (κ×V)}{k:κ}(h:cn kvs k=none):¬ k∈kvs.map (·.1):=by
 intro m;obtain⟨p,b,e⟩:=MR.mp m;have q:(kvs.any λa=>decide (a.1=k))=true:=List.any_eq_true.mpr ⟨p,b,q09 e⟩;rw[fT,h]at q;exact q0O q (by simp)
theorem Gs{kvs:List (κ×V)}{k:κ}{v:V}(h:cn kvs k=some v):k∈kvs.map (·.1):=by
 have q:(kvs.any λa=>decide (a.1=k))=true:=by
  rw[fT,h]
  all_goals rfl
 obtain⟨p,b,e⟩:=List.any_eq_true.mp q;exact MR.mpr ⟨p,b,of_decide_eq_true e⟩
theorem AB:∀{l:List κ} {k:κ},l.Nodup->¬ k∈l->(l++[k]).Nodup
 | [],k,_,_=>by simp
 |a::r,k,h,hk=>by
  obtain⟨h1,h2⟩:=List.nodup_cons.mp h;show(a::(r++[k])).Nodup;refine List.nodup_cons.mpr ⟨λm=>?_,AB h2 λm=>hk (Mq.mpr (Or.inr m))⟩;rcases Mo.mp m with q | q
  ·exact h1 q
  ·exact hk (Mq.mpr (Or.inl (Mc.mp q).symm))
theorem Fw{kvs:List (κ×V)}{k:κ}(v:V)(hn:(kvs.map (·.1)).Nodup)(h:cn kvs k=none):((cF kvs k v).map (·.1)).Nodup:=by
 rw[rB v h,Mn];exact AB hn (wJ h)
end
end L2
namespace PySem
open Sem (wp)
open Builtin Builtin.Str Builtin.Int
namespace F
theorem nQ:Manifest.owners.lookup "reversed"=some Manifest.sig_reversed:=by kernel_rfl
theorem slot_rvs_next:Slot "reversed" "__next__" "reversed.__next__":=
 .of (owner:="reversed") (n:="__next__") (by rw[typeLookup_type,builtinLookup_eq_fast];kernel_rfl) m⁻¹ m⁻¹ m⁻¹
  (by first | exact .inl m⁻¹ | exact .inr m⁻¹) (by rw[isSubtype_type];kernel_rfl)
theorem entry_rvs_next:entryFor table "reversed.__next__"=some Builtin.«reversed.__next__»:=entryFor_of_tree i⁻¹
theorem slot_rvs_iter:Slot "reversed" "__iter__" "reversed.__iter__":=
 .of (owner:="reversed") (n:="__iter__") (by rw[typeLookup_type,builtinLookup_eq_fast];kernel_rfl) m⁻¹ m⁻¹ m⁻¹
  (by first | exact .inl m⁻¹ | exact .inr m⁻¹) (by rw[isSubtype_type];kernel_rfl)
theorem nolen_rvs:typeLookup (.type "reversed") "__len__"=pure none:=by rw[typeLookup_type,builtinLookup_eq_fast];kernel_rfl
theorem hint_rvs:typeLookup (.type "reversed") "__length_hint__"=pure (some (.builtin "reversed.__length_hint__")):=by rw[typeLookup_type,builtinLookup_eq_fast];kernel_rfl
theorem args_rvs_next_1(a:Value):argsOk "reversed.__next__" ⟨[a],[]⟩:=by
 unfold argsOk;rw[signature?_of (id:="reversed.__next__") (n:=['_','_','t','x','e','n','_','_']) (o:=['d','e','s','r','e','v','e','r']) i⁻¹ nQ];kernel_rfl
theorem args_rvs_iter_1(a:Value):argsOk "reversed.__iter__" ⟨[a],[]⟩:=by
 unfold argsOk;rw[signature?_of (id:="reversed.__iter__") (n:=['_','_','r','e','t','i','_','_']) (o:=['d','e','s','r','e','v','e','r']) i⁻¹ nQ];kernel_rfl
theorem entry_rvs_iter:entryFor table "reversed.__iter__"=some Builtin.«dict_keyiterator.__iter__»:=
 entryFor_alias (id':="dict_keyiterator.__iter__") i⁻¹ (by first | rfl | decide +kernel | (unfold String.splitOn;simp +decide [String.splitOnAux])) m⁻¹ i⁻¹
theorem slot_rvs_hint:Slot "reversed" "__length_hint__" "reversed.__length_hint__":=
 .of (owner:="reversed") (n:="__length_hint__") (by rw[typeLookup_type,builtinLookup_eq_fast];kernel_rfl) m⁻¹ m⁻¹ m⁻¹
  (by first | exact .inl m⁻¹ | exact .inr m⁻¹) (by rw[isSubtype_type];kernel_rfl)
theorem entry_rvs_hint:entryFor table "reversed.__length_hint__"=some Builtin.«reversed.__length_hint__»:=entryFor_of_tree i⁻¹
theorem args_rvs_hint_1(a:Value):argsOk "reversed.__length_hint__" ⟨[a],[]⟩:=by
 unfold argsOk;rw[signature?_of (id:="reversed.__length_hint__") (n:=['_','_','t','n','i','h','_','h','t','g','n','e','l','_','_']) (o:=['d','e','s','r','e','v','e','r']) i⁻¹ nQ];kernel_rfl
end F
section
variable {prog:Nf}{w:Ni}{A:Nh}{E:M5}{s:M9}
def zo(x:Str)(t:Tok)(i:Int):Obj:={cls:=.type "reversed",data:=.fields #[.str x t,rawInt i]}
def Heap.IsRvs(h:Heap)(a:Addr)(x:Str)(t:Tok)(i:Int):Prop:=∃o,h.get? a=some o/\o.cls=.type "reversed"/\o.data=.fields #[.str x t,rawInt i]
theorem Heap.IsRvs.typeIs{t:Tok}{i:Int}(y:s.heap.IsRvs a x t i):s.TypeIs (.ref a) "reversed":=let ⟨o,ho,hc,_⟩:=y;⟨o,ho,hc⟩
theorem Heap.IsRvs.at{h h':Heap}{t:Tok}{i:Int}(y:h.IsRvs a x t i)(e:∀o,h.get? a=some o->h'.get? a=some o):h'.IsRvs a x t i:=let ⟨o,ho,r⟩:=y;⟨o,e _ ho,r⟩
theorem jE{it:Addr}{t:Tok}{i c:Nat}{Q:Option Value->Shared->Prop}(hit:s.heap.IsRvs it x t (i:Int))(hx:x.cps[i]?=some c)(hsz:i<2 ^ 63)
  (hQ:∀h' tk tk',h'.IsRvs it x t ((i:Int)-1)->Heap.SameBut it s.heap h'->Q (some (.str ⟨#[c]⟩ tk)) {s with heap:=h',toks:=tk' }):wpAny d⁻¹ A (pyNext (.ref it)) Q E s:=by
 obtain⟨o,g,l,b⟩:=id hit;have j:i<x.length:=(Array.getElem?_eq_some_iff.mp hx).1;unfold pyNext;refine q04 (wpAny_attempt (wpAny_callSpecial?_slot (name:=Str.ofString "__next__") hit.typeIs F.slot_rvs_next
  (wpAny_call_entry F.slot_rvs_next hit.typeIs F.entry_rvs_next ?_ (F.args_rvs_next_1 _))))
 unfold Builtin.«reversed.__next__»;refine q04 (wpAny_of_eq (a:=(Value.ref it,[])) rfl ?_)
 try dsimp only
 refine q04 (wpAny_field g b (x:=.str x t) rfl ?_);refine q04 (wpAny_field g b (x:=rawInt (i:Int)) rfl ?_);show wpAny _ _ (if(i:Int)<0 then _ else _) _ _ s;rw[q06 ⋯];refine q04 (wpAny_specialOf (typeIs_str s x t) F.slot_str_getitem.lookup ?_)
 try dsimp only
 first
 |rw[q06 (show ¬ ((some (Value.builtin "str.__getitem__")).isNone=true) from MA)]
 |skip
 refine q04 (wpAny_mkInt ?_);refine q04 (wpAny_attempt ?_);have m:(seqIndex? (i:Int) x.length).bind (x.cps[·]?)=some c:=by
  have e:seqIndex? (i:Int) x.length=some i:=by
   have k:¬ ((i:Int)<0):=by omega
   unfold seqIndex?;simp[k,j]
  rw[e];exact hx
 refine P.getItem_str (c:=c) (by simp;omega) m ?_;dsimp only;refine q04 (wpAny_field g b (x:=rawInt (i:Int)) rfl ?_);show wpAny _ _ (setField (Value.ref it) 1 (rawInt ((i:Int)-1)) >>= λ_=>ret (Value.str ⟨#[c]⟩ _)) _ _ _;refine q04 (wpAny_setField g b (by simp) ?_);refine q05 ⟨_,rfl,q05 (hQ _ _ _ ?_ (Heap.SameBut.update ..))⟩;exact⟨_,Ml _ g (Obj.isFreed_of_fields (Obj.data_mapFields b _)),(Obj.cls_mapFields ..).trans l,by
  rw[Obj.data_mapFields b];simp⟩
theorem jP{it:Addr}{t:Tok}{Q:Option Value->Shared->Prop}(hh:A.handled=none)(hit:s.heap.IsRvs it x t (-1))
  (hQ:∀h',Heap.ExtBut it s.heap h'->Q none {s with heap:=h' }):wpAny d⁻¹ A (pyNext (.ref it)) Q E s:=by
 obtain⟨o,e,hc,c⟩:=id hit;unfold pyNext;refine q04 (wpAny_attempt (wpAny_callSpecial?_slot (name:=Str.ofString "__next__") hit.typeIs F.slot_rvs_next
  (wpAny_call_entry F.slot_rvs_next hit.typeIs F.entry_rvs_next ?_ (F.args_rvs_next_1 _))))
 unfold Builtin.«reversed.__next__»;refine q04 (wpAny_of_eq (a:=(Value.ref it,[])) rfl ?_)
 try dsimp only
 refine q04 (wpAny_field e c (x:=.str x t) rfl ?_);refine q04 (wpAny_field e c (x:=rawInt (-1)) rfl ?_);show wpAny _ _ (if(-1:Int)<0 then _ else _) _ _ s;rw[q07 nofun];refine q04 (wpAny_rule ?_);show wpAny _ _ ((setField (Value.ref it) 1 (rawInt (-1)) >>= λ_=>setField (Value.ref it) 0 .none) >>= _) _ _ _;refine q04 (q04 (wpAny_setField e c (by simp) ?_));have g:=Ml (Obj.mapFields (·.setIfInBounds 1 (rawInt (-1)))) e (Obj.isFreed_of_fields (Obj.data_mapFields c _));refine wpAny_setField g (Obj.data_mapFields c _) (by simp) ?_;dsimp only;show wpAny _ _ (SmallTypes.stopIteration >>= _) _ _ _;refine q04 ?_;unfold SmallTypes.stopIteration
 first
 |show wpAny _ _ (newExc (.type "StopIteration") [] >>= _) _ _ _
 | (refine q04 ?_;show wpAny _ _ (newExc (.type "StopIteration") [] >>= _) _ _ _)
 refine q04 ?_;simp only[newExc,newTuple];refine q04 (wpAny_newObj_type ?_ (by size_fits));refine q04 (m:=firstArgMember _ _) (wpAny_of_eq (a:=Value.none) (by first | rfl | (simp only[firstArgMember];rfl)) ?_);refine wpAny_newObj_type ?_ (by size_fits);simp only[raiseNew];refine q04 (wpAny_handled ?_)
 first | rw[show A.in1.handled=none from hh] | rw[hh]
 refine q04 (q05 (wpAny_throw ?_));refine q04 (wpAny_isInstance (T:="StopIteration") (b:=true) ⟨_,Mg _ rfl,rfl⟩ isSubtype_stop ?_);refine q05 (hQ _ ?_);intro b ob j k;exact Ma _ (Ma _ ((Mf _ _ (Ne.symm j)).trans ((Mf _ _ (Ne.symm j)).trans k)))
theorem iR{it:Addr}{t:Tok}{i:Int}{Q:M5}(hit:s.heap.IsRvs it x t i)(h:Q (.ref it) s):wpAny d⁻¹ A (pyIter (.ref it)) Q E s:=by
 refine wpAny_pyIter_slot hit.typeIs F.slot_rvs_iter (wpAny_call_entry F.slot_rvs_iter hit.typeIs F.entry_rvs_iter ?_ (F.args_rvs_iter_1 _));show wpAny _ _ (ret (.ref it)) _ _ s;exact q05 ⟨_,rfl,"reversed",_,hit.typeIs,F.slot_rvs_next.lookup,h⟩
theorem hint_rvs{it:Addr}{t:Tok}{i:Int}{Q:M5}(hit:s.heap.IsRvs it x t i)(hi:i<x.length)(hz:x.length<=sizeLine)
  (h:∀u tk,s.toks<=tk->Q (.int (i+1) u) {s with toks:=tk}):wpAny d⁻¹ A (call (.builtin "reversed.__length_hint__") [.ref it]) Q E s:=by
 obtain⟨o,b,hc,c⟩:=id hit;refine wpAny_call_entry F.slot_rvs_hint hit.typeIs F.entry_rvs_hint ?_ (F.args_rvs_hint_1 _);unfold Builtin.«reversed.__length_hint__»;refine q04 (wpAny_of_eq (a:=Value.ref it) rfl ?_);refine q04 (wpAny_field b c (x:=.str x t) rfl ?_);show wpAny _ _ (if(Value.str x t==Value.none)=true then _ else _) _ _ s;rw[q06 (show ¬ ((Value.str x t==Value.none)=true) from λz=>by cases(eq_of_beq z))];have hs:sizeLine=16777216:=q0S;refine q04 (P.len_str ⋯ ?_);refine q04 (m:=asInt? _) (q05 ?_);dsimp only;refine q04 (wpAny_field b c (x:=rawInt i) rfl ?_);show wpAny _ _ (if(x.length:Int)<i+1 then _ else _) _ _ _;rw[q06 ⋯];show wpAny _ _ (mkInt (i+1) >>= λv=>ret v) _ _ _;exact q04 (wpAny_mkInt (q05 ⟨_,rfl,h _ _ (by simp;omega)⟩))
theorem Walks.rvs{A:Nh}(hh:A.handled=none)(I:Addr)(x:Str)(t:Tok)(hz:x.length<=sizeLine) :
  Walks prog w A I [I] [I] x.length (λi v=>∃c tk,x.cps[x.length-1-i]?=some c/\v=.str ⟨#[c]⟩ tk) (λi h=>i<=x.length/\h.IsRvs I x t ((x.length:Int)-1-(i:Int))) where
 sub:=λb hb=>hb
 frame:=λ_ _ _ y hk=>⟨y.1,y.2.at λo e=>hk I (by simp) o e⟩
 item:=λi s Q E hi y hQ=>by
  have e:(x.length:Int)-1-(i:Int)=((x.length-1-i:Nat):Int):=by omega
  have a:=y.2;rw[e]at a;have hb:x.length-1-i<x.cps.size:=by have:x.length=x.cps.size:=rfl;omega
  have p:x.cps[x.length-1-i]?=some (x.cps[x.length-1-i]'hb):=Array.getElem?_eq_getElem hb;have hs:sizeLine=16777216:=q0S;refine jE a p ⋯ λm tk j g k=>?_;have q:((x.length-1-i:Nat):Int)-1=(x.length:Int)-1-((i+1:Nat):Int):=by omega
  rw[q]at g;exact hQ _ m j ⟨_,tk,p,rfl⟩ ⟨hi,g⟩ λb o hb n=>k.extBut b o (λh=>hb (by simp[h])) n
 done:=λs Q E y hQ=>by
  have e:(x.length:Int)-1-(x.length:Int) = -1:=by omega
  have a:=y.2;rw[e]at a;exact jP hh a λm l=>hQ m s.toks λb o hb n=>l b o (λh=>hb (by simp[h])) n
 self:=λ_ _ _ _ y hQ=>iR y.2 hQ
theorem nu{t:Tok}{Q:List Value->Shared->Prop}(hh:A.handled=none)(hit:s.heap.IsRvs I x t ((x.length:Int)-1))(hz:x.length<=sizeLine)
  (hQ:∀s' acc,Moved [I] (λa b=>b=a) s s'->ItemsOf (λi v=>∃c tk,x.cps[x.length-1-i]?=some c/\v=.str ⟨#[c]⟩ tk) acc x.length->Q acc.toList s'):wpAny d⁻¹ A (collect (.ref I)) Q E s:=by
 have W:=(Walks.rvs (prog:=prog) (w:=w) (A:=A.in1) hh I x t hz).toS;have hn:x.length<=sizeLine:=hz;have hst:(λi (s:M9)=>i<=x.length/\s.heap.IsRvs I x t ((x.length:Int)-1-(i:Int))) 0 s:=⟨Mz _,by simpa using hit⟩;have hT:∀i (s:M9),(i<=x.length/\s.heap.IsRvs I x t ((x.length:Int)-1-(i:Int)))->s.TypeIs (.ref I) "reversed":=λi s y=>y.2.typeIs;have hlt:I<s.heap.objs.size:=by obtain⟨o,ho,_⟩:=hit;exact MB ho
 have hSI:s.heap.objs.size≠I:=λe=>MH _ (e▸hlt);have hSf:s.heap.objs.size∉[I]:=λhm=>hSI (Mc.mp hm);unfold collect;refine q04 (wpAny_runValue (codeAny_builtin F.entry_proto_collect ?_));rw[Around.under_plainId F.plain_proto_collect _];show wpAny _ A.in1 (newList [] >>= λl=>again (.builtin "list.__iadd__" ⟨[l,.ref I],[]⟩)) _ _ s;refine q04 (wpAny_newObj_type ?_);refine q05 ⟨plainId_quiet F.plain_list_iadd _,codeAny_builtin F.entry_list_iadd ?_⟩;rw[Around.under_plainId F.plain_list_iadd _];have hst₁:=W.frame 0 s (s.heap.push {cls:=.type "list",data:=.seq ([]:List Value).toArray}) s.toks hst (My _) λb _ o e=>Ma _ e;have hS₁:(s.heap.push {cls:=.type "list",data:=.seq ([]:List Value).toArray}).get? s.heap.objs.size=some {cls:=.type "list",data:=.seq ([]:List Value).toArray}:=Mg _ rfl;have h1:Builtin.List.listSameRef r⁻¹ (.ref I)=false:=by simp[Builtin.List.listSameRef,hSI]
 show wpAny _ A.in1 (Builtin.List.listExtendWith r⁻¹ (.ref I) r⁻¹) _ _ _;unfold Builtin.List.listExtendWith;refine q04 (wpAny_typeOf (hT 0 _ hst₁) ?_);rw[q06 (by rw[h1];decide)];refine q04 (W.self 0 _ _ _ hst₁ ?_);refine q04 (q0U ?_);unfold Builtin.List.listLengthHint;refine q04 (wpAny_specialOf (hT 0 _ hst₁) F.nolen_rvs ?_);show wpAny _ A.in1 (specialOf (Value.ref I) (Str.ofString "__length_hint__") >>= _) _ _ _;refine q04 (wpAny_specialOf (hT 0 _ hst₁) F.hint_rvs ?_)
 (generalize hid:("reversed.__length_hint__":String)=id0;(fail_if_success (clear hid id0));wp_delta;rw[show splitId id0=some ("reversed","__length_hint__") from by subst hid;decide +kernel];subst hid)
 refine q04 (wpAny_isInstance (b:=true) (hT 0 _ hst₁) (by rw[isSubtype_type];kernel_rfl) ?_);rw[q06 (show ¬ ((!true)=true) by decide)];dsimp only
 split
 ·rename_i hsil
  exact q0O hsil m⁻¹
 refine q04 (wpAny_rule ?_);refine q04 (wpAny_of_eq (F.slot_rvs_hint.bind _) ?_);dsimp only;refine q04 (wpAny_attempt ?_);refine hint_rvs (i:=(x.length:Int)-1-((0:Nat):Int)) hst₁.2 ⋯ hz λu tk htk=>?_;dsimp only;have hs:sizeLine=16777216:=q0S;have hk:Builtin.List.listTooLong (Int.toNat ((x.length:Int)-1-((0:Nat):Int)+1))=false:=by
  unfold Builtin.List.listTooLong;have e:Int.toNat ((x.length:Int)-1-((0:Nat):Int)+1)=x.length:=by omega
  rw[e]
  simpa using hz
 refine q04 (m:=asInt? (.int _ u)) (q05 ?_);dsimp only;have hfit:Builtin.List.listFitsIndex ((x.length:Int)-1-((0:Nat):Int)+1)=true:=by
  unfold Builtin.List.listFitsIndex;simp;omega
 rw[q06 (by rw[hfit];decide),q06 ⋯,q06 (by rw[hk];decide)];refine q05 ?_
 -- the loop,from a list that may have been touched
 have fin:∀(h₂:Heap) (c:Nat),(∀b o,b≠s.heap.objs.size->(s.heap.push {cls:=.type "list",data:=.seq ([]:List Value).toArray}).get? b=some o->h₂.get? b=some o) ->
   h₂.get? s.heap.objs.size=some {cls:=.type "list",data:=.seq ([]:List Value).toArray c} ->
   codeAny d⁻¹ A (.builtin "list.extend.loop" ⟨[.ref s.heap.objs.size,.ref I,.ref s.heap.objs.size],[]⟩) (λr s'=>match r with
    | .ok (.ret v)=>wpAny d⁻¹ A (match v with
     | .ref a=>do
      let __do_lift <- load a
      match __do_lift.data with
       | .seq xs _=>pure xs.toList
       |_=>unsupported "internal:collect"
     |_=>unsupported "internal:collect") Q E s'
    | .ok _=>False
    | .error e=>E e s') {s with heap:=h₂,toks:=tk}:=λh₂ c keep hS₂=>by
  have hst₂:(λi (s:M9)=>i<=x.length/\s.heap.IsRvs I x t ((x.length:Int)-1-(i:Int))) 0 {s with heap:=h₂,toks:=tk}:=⟨Mz _,hst₁.2.at λo e=>keep I o (Ne.symm hSI) e⟩;refine codeAny_extend_loopS W hn _ hSf _ x.length 0 _ _ _ rfl (Mz _) hst₂ hS₂ (ItemsOf.nil _) λs' acc' c' hm hS' hacc=>?_;show wpAny _ A (load s.heap.objs.size >>= _) _ _ s';refine q04 (wpAny_load hS' ?_);refine q05 (hQ s' acc' ?_ hacc);exact⟨λb ob hb e=>hm.heap b ob (λhm'=>by
    rcases Mq.mp hm' with e1 | hm'
    ·exact q0O (e1▸MB e) (MH _)
    ·exact hb hm') (keep b ob (λe1=>q0O (e1▸MB e) (MH _)) (Ma _ e)),hm.gens,hm.drawn,hm.os,MG htk hm.toks⟩
 have quiet:=plainId_quiet F.plain_extend_loop (⟨[.ref s.heap.objs.size,.ref I,.ref s.heap.objs.size],[]⟩:Args)
 split
 ·refine q04 (wpAny_rule ?_)
  show wpAny _ A.in1 ((updateSeq s.heap.objs.size (·.push .none) >>= λ_=>updateSeq s.heap.objs.size (·.pop)) >>= _) _ _ _;refine q04 (q04 (wpAny_updateSeq hS₁ rfl ?_ (by simp) (by simp)));have q1:=PySem.IsL.update (h:=s.heap.push {cls:=.type "list",data:=.seq ([]:List Value).toArray}) (l:=s.heap.objs.size) (items:=([]:List Value).toArray) (n:=0) hS₁ (·.push .none);refine wpAny_updateSeq q1 rfl ?_ (by simp;omega) (by simp);have q2:=PySem.IsL.update q1 (·.pop);exact q05 ⟨quiet,fin _ _ (λb o hb e=>(Mf _ _ (Ne.symm hb)).trans ((Mf _ _ (Ne.symm hb)).trans e)) (show _=some ({cls:=.type "list",data:=.seq ([]:List Value).toArray _}:Obj) from q2)⟩
 ·exact q05 ⟨quiet,fin _ _ (λb o hb e=>e) hS₁⟩
theorem E4{sep:Str}{t:Tok}{Q:M5}(hh:A.handled=none)(hit:s.heap.IsRvs I x t ((x.length:Int)-1))(hz:x.length<=1000)(hsep:sep.length<=1000)
  (h:∀(s':M9) (t':Tok) (k:Nat),(∀b o,b≠I->s.heap.get? b=some o->s'.heap.get? b=some o)->s'.gens=s.gens->s'.drawn=s.drawn->s'.os=s.os ->
   Q (.str (Txt.join sep (x.cps.toList.reverse.map λc=>(⟨#[c]⟩:Str))) t') {s' with toks:=k}):wpAny d⁻¹ A (call (.builtin "str.join") [.str sep t0,.ref I]) Q E s:=by
 have hs:sizeLine=16777216:=q0S;refine wpAny_call (codeAny_call_builtin F.slot_str_join.plain F.entry_str_join (F.slot_str_join.check _ _ _ _ _ _ _ _ (typeIs_str _ _ _) (F.args_str_join_2 _ _) ?_));rw[join_tree_other];refine q04 (wpAny_typeOf hit.typeIs ?_);show wpAny _ A.in1 ((pyIter (.ref I)).tryCatch _ >>= λY=>collect Y >>= λu=>joinTail sep u) _ _ s;refine q04 (wpAny_tryCatch (iR hit ?_));refine q04 (nu hh hit ⋯ λs' C D m=>?_);obtain⟨l,G⟩:=exists_strValues C.toList λv Z=>by
  obtain⟨j,J,rfl⟩:=Array.mem_iff_getElem.mp (Array.mem_toList_iff.mp Z);obtain⟨c,U,_,e⟩:=m.2 j _ (Array.getElem?_eq_getElem J);exact⟨_,_,e⟩
 have B:l.map (·.1)=x.cps.toList.reverse.map λc=>(⟨#[c]⟩:Str):=by
  have el:l.length=x.length:=by
   have q:=q0P List.length G;simp[strValues]at q;rw[q];exact m.1
  refine List.ext_getElem (by simp[el];rfl) λj h1 h2=>?_;simp only[MD,List.getElem_reverse];have J:j<l.length:=by simpa using h1
  have ha:C.toList[j]?=some (Value.str (l[j]).1 (l[j]).2):=by
   rw[<- G];simp[strValues,J]
  have O:C[j]?=some (Value.str (l[j]).1 (l[j]).2):=by simpa using ha
  obtain⟨c,U,T,e⟩:=m.2 j _ O
  injection e with S _
  rw[S];have M:x.length-1-j<x.cps.size:=by have:x.length=x.cps.size:=rfl;omega
  rw[Array.getElem?_eq_getElem M]at T;have L:=q0Q T;rw[<- L];simp only[Array.length_toList,Array.getElem_toList]
  rfl
 rw[<- G];have n:JoinOk sep (l.map (·.1))=true:=by
  unfold JoinOk;rw[StrLaws.joinTotal];have S:((l.map (·.1)).map (·.length)).sum=x.length:=by
   rw[B,Mp];have:((λy:Str=>y.length)∘λc=>(⟨#[c]⟩:Str))=λ_=>1:=by funext c;rfl
   rw[this,List.map_const',List.sum_replicate_nat];simp
   rfl
  have e2:(l.map (·.1)).length=x.length:=by rw[B];simp;rfl
  rw[S,e2];have:x.length*sep.length<=1000*1000:=Nat.mul_le_mul hz hsep;unfold tooLong;rw[q08 ⋯]
  rfl
 have a:=λt' k=>h s' t' k (λb o M e=>D.heap b o (λz=>M (Mc.mp z)) e) D.gens D.drawn D.os;unfold JoinOk at n;rw[Bool.not_eq_true']at n;have g:Gives (joinTail sep (strValues l)) (joinMade sep l):=by
  have R:=gives_joinTail sep l n;cases l with
  |nil=>exact R
  |cons p r=>cases r with
   |nil=>exact R
   |cons q r'=>exact R
 rw[<- B]at a;exact g prog w A (wants Q E) s' (post_join l ⟨joinFit_length n,a⟩)
end
namespace F
theorem sV:Slot "reversed" "__init__" "object.__init__":=
 .of (owner:="object") (n:="__init__") (by rw[typeLookup_type,builtinLookup_eq_fast];kernel_rfl) m⁻¹ m⁻¹ m⁻¹
  (by first | exact .inl m⁻¹ | exact .inr m⁻¹) (by rw[isSubtype_type];kernel_rfl)
theorem Ax:mroOf (.type "reversed")=pure [.type "reversed",.type "object"]:=by rw[mroOf_type];kernel_rfl
theorem r_:typeLookup (.type "reversed") "__new__"=pure (some (.builtin "reversed.__new__")):=by rw[typeLookup_type,builtinLookup_eq_fast];kernel_rfl
theorem rvs_called:TypeCalled "reversed" "reversed.__new__" "object.__init__":=
 ⟨by decide +kernel,by decide +kernel,⟨_,_,Ax⟩,madeBy_type Ax r_ m⁻¹,by decide +kernel,by rw[isSubtype_type];kernel_rfl,sV⟩
theorem rvs_typeCall_1(a:Value):checkTypeCall "reversed" ⟨[a],[]⟩=pure ():=by kernel_rfl
theorem rvs_newCall_1(a:Value):checkBuiltinCall "reversed.__new__" ⟨[.type "reversed",a],[]⟩=pure ():=by kernel_rfl
theorem rvs_entry_new:entryFor table "reversed.__new__"=some Builtin.«reversed.__new__»:=entryFor_of_tree i⁻¹
theorem rvs_sub:isSubtype (.type "reversed") (.type "reversed")=pure true:=by rw[isSubtype_type];kernel_rfl
theorem rvs_nostr:typeLookup (.type "str") "__reversed__"=pure none:=by rw[typeLookup_type,builtinLookup_eq_fast];kernel_rfl
end F
section
variable {prog:Nf}{w:Ni}{A:Nh}{E:M5}{s:M9}
theorem vZ(a:Value):Builtin.SmallTypes.newClass "reversed" ⟨[.type "reversed",a],[]⟩=pure (.type "reversed",[a]):=by
 unfold Builtin.SmallTypes.newClass;simp only[isType,F.rvs_sub,pure_bind,Bool.not_true,q0W,if_false]
theorem sX(x:Str)(t:Tok)(hz:x.length<=sizeLine):Meets (Builtin.«reversed.__new__» ⟨[.type "reversed",.str x t],[]⟩)
  (λ_ R s=>R (.ok (.ret r⁻¹)) {s with heap:=s.heap.push (zo x t ((x.length:Int)-1)),toks:=s.toks+1+1}):=
 .of_wp λprog w A R s h=>by
  have hs:sizeLine=16777216:=q0S;unfold Builtin.«reversed.__new__»;refine q04 (wpAny_of_eq (vZ _) ?_)
  try dsimp only
  refine q04 (wpAny_of_eq (a:=()) (by first | rfl | kernel_rfl) ?_);refine q04 (wpAny_of_eq (a:=()) (by first | rfl | kernel_rfl) ?_)
  try dsimp only
  refine q04 (wpAny_specialOf (typeIs_str s x t) F.rvs_nostr ?_)
  try dsimp only
  refine q04 ?_;refine q04 (wpAny_isInstance (T:="str") (b:=false) (typeIs_str s x t) (by rw[isSubtype_type];kernel_rfl) ?_);rw[q06 nofun];refine q04 (wpAny_specialOf (typeIs_str s x t) F.slot_str_getitem.lookup ?_);dsimp only
  split
  ·refine q05 ?_
   rw[q06 nofun];refine q04 (P.len_str ⋯ ?_);refine q04 (m:=asInt? _) (q05 ?_);dsimp only;show wpAny _ _ (newObj (.type "reversed") (.fields #[.str x t,rawInt ((x.length:Int)-1)]) >>= λv=>ret v) _ _ _;exact q04 (wpAny_newObj_type (q05 ⟨_,rfl,h⟩))
  ·rename_i hn
   exact q0O m⁻¹ hn
theorem nq{x:Str}{t:Tok}{Q:M5}(hz:x.length<=sizeLine)
  (h:Q r⁻¹ {s with heap:=s.heap.push (zo x t ((x.length:Int)-1)),toks:=s.toks+1+1}):wpAny d⁻¹ A (call (.type "reversed") [.str x t]) Q E s:=
 callType_new F.rvs_called nofun (F.rvs_typeCall_1 _) (F.rvs_newCall_1 _) (λobj=>F.args_object_init_2 obj _) F.rvs_entry_new (sX x t hz) ⟨⟨_,Mg _ rfl,rfl⟩,h⟩
end
end PySem
namespace L2
open PySem PySem.Spec PyProof.Rows
def gi(env:Env):List (Str×NameKind)->List (Str×Addr)->List (Str×Addr)
 | [],acc=>acc
 | (n,k)::r,acc=>if k==.free then gi env r ((n,(env.cells.lookup n).getD 0)::acc) else gi env r acc
theorem o8{env:Env}:∀(ns:List (Str×NameKind)) (acc:List (Str×Addr)),(∀x∈ns,x.2=.free->∃c,env.cells.lookup x.1=some c) ->
  (forIn ns acc fun(x:Str×NameKind) (cs:List (Str×Addr))=>(if x.2==.free then do
    let c <- cellOf env x.1
    pure (ForInStep.yield ((x.1,c)::cs))
   else pure (ForInStep.yield cs):Sem (ForInStep (List (Str×Addr)))))=pure (gi env ns acc)
 | [],acc,_=>rfl
 | (n,k)::r,acc,h=>by
  have ih:=λa=>o8 (env:=env) r a λx hx=>h x (Mr _ hx);rw[List.forIn_cons]
  by_cases hk:k=.free
  ·subst hk
   obtain⟨c,hc⟩:=h (n,.free) q0B rfl;have hc':env.cells.lookup n=some c:=hc;have e1:cellOf env n=pure c:=by unfold cellOf;rw[hc']
   simp only[gi,hc',q0J];show((do let c <- cellOf env n;pure (ForInStep.yield ((n,c)::acc))) >>= _)=_;rw[e1,pure_bind,pure_bind];exact ih _
  ·have b:(k==NameKind.free)=false:=by simpa using hk
   simp only[gi,b,q0W,if_false];rw[pure_bind];exact ih _
theorem jL{env:Env}{scope:Scope}(h:∀x∈scope.names,x.2=.free->∃c,env.cells.lookup x.1=some c) :
  closureFor scope env=pure (gi env scope.names []):=by
 unfold closureFor;have e:=o8 (env:=env) scope.names [] h;have a:(forIn scope.names ([]:List (Str×Addr)) λx b=>(match x with
   | (name,kind)=>if kind==.free then do
     let c <- cellOf env name
     pure (ForInStep.yield ((name,c)::b))
    else pure (ForInStep.yield b):Sem (ForInStep (List (Str×Addr)))))=pure (gi env scope.names []):=e
 simp only[]at a ⊢
 first
  | (rw[a];rfl)
  | (erw [a];rfl)
theorem je{env:Env}:∀{ns:List (Str×NameKind)} {acc:List (Str×Addr)} {x:Str} {c:Addr},(∀y∈ns,y.2=.free->∃c,env.cells.lookup y.1=some c) ->
  (∀y c,acc.lookup y=some c->env.cells.lookup y=some c)->(gi env ns acc).lookup x=some c->env.cells.lookup x=some c
 | [],_,_,_,_,ha,e=>ha _ _ e
 | (n,k)::r,acc,x,c,h,ha,e=>by
  have hr:∀y∈r,y.2=.free->∃c,env.cells.lookup y.1=some c:=λy hy=>h y (Mr _ hy);unfold gi at e
  by_cases hk:k=.free
  ·subst hk
   rw[q07 (by simp)]at e;obtain⟨c',hc⟩:=h (n,.free) q0B rfl;have hc':env.cells.lookup n=some c':=hc;refine je hr (λy d z=>?_) e;rw[hc',q0J,List.lookup_cons]at z
   by_cases q:y=n
   ·subst q
    simp at z;subst z;exact hc'
   ·have q':(y==n)=false:=by simpa using q
    rw[q']at z;exact ha y d z
  ·rw[q06 (by simpa using hk)]at e
   exact je hr ha e
theorem pY{env:Env}:∀{ns:List (Str×NameKind)} {acc:List (Str×Addr)} {x:Str},((∃c,acc.lookup x=some c)\/(x,NameKind.free)∈ns)->∃c,(gi env ns acc).lookup x=some c
 | [],_,_,h=>by
  rcases h with h | h
  ·exact h
  ·exact nomatch h
 | (n,k)::r,acc,x,h=>by
  unfold gi
  by_cases hk:k=.free
  ·subst hk
   rw[q07 (by simp)];refine pY ?_
   by_cases q:x=n
   ·subst q
    left
    simp[List.lookup_cons]
   ·have q':(x==n)=false:=by simpa using q
    rcases h with⟨c,h⟩ | h
    ·exact .inl ⟨c,by rw[List.lookup_cons,q'];exact h⟩
    ·rcases Mq.mp h with z | z
     ·cases z
      exact q0O rfl q
     ·exact .inr z
  ·rw[q06 (by simpa using hk)]
   refine pY ?_;rcases h with h | h
   ·exact .inl h
   ·rcases Mq.mp h with z | z
    ·cases z
     exact q0O rfl hk
    ·exact .inr z
def wK(scope osc:Scope):Scope:=
 {scope with names:=scope.names.map fun(n,k)=>if(k==.free&&osc.kind==.function&&osc.names.lookup n==some .cell) then(n,.cell) else(n,k)}
def Du(scope osc:Scope):Bool:=
 (scope.kind==.function)&&(osc.kind==.function)&&scope.names.all fun(n,k)=>(k != .free || !scope.names.contains (n,NameKind.cell))&&(k != .local||scope.names.lookup n==some .local) &&
  (k != .free||osc.names.lookup n==some .cell||osc.names.lookup n==some .free)&&(k != .free||(wK scope osc).names.lookup n != some .local)
structure bI(scope osc:Scope):Prop where
 kind:scope.kind=.function
 sep:∀x∈scope.names,x.2=.free->(x.1,NameKind.cell)∉scope.names
 loc:∀x∈scope.names,x.2=.local->scope.names.lookup x.1=some .local
 free:∀x∈scope.names,x.2=.free->osc.names.lookup x.1=some .cell\/osc.names.lookup x.1=some .free
 nl:∀x∈scope.names,x.2=.free->(wK scope osc).names.lookup x.1≠some .local
theorem bI.of{scope osc:Scope}(h:Du scope osc=true):bI scope osc:=by
 unfold Du at h;rw[q0M,q0M,MS]at h;obtain⟨⟨h1,h0⟩,h2⟩:=h;refine⟨by simpa using h1,λx a e=>?_,λx a e=>?_,λx a e=>?_,λx a e=>?_⟩
 all_goals
  obtain⟨n,k⟩:=x;have q:=h2 (n,k) a;simp only[q0M,Bool.or_eq_true,bne_iff_ne,beq_iff_eq]at q
 ·have z:=q.1.1.1.resolve_left (λz=>z e)
  simpa using z
 ·exact q.1.1.2.resolve_left (λz=>z e)
 ·rcases q.1.2 with(z | z) | z
  ·exact q0O e z
  ·exact .inl z
  ·exact .inr z
 ·exact q.2.resolve_left (λz=>z e)
theorem gS{osc:Scope}:∀{ns:List (Str×NameKind)} {x:Str} {k':NameKind},
  (ns.map fun(n,k)=>if(k==NameKind.free&&osc.kind==.function&&osc.names.lookup n==some .cell) then(n,NameKind.cell) else(n,k)).lookup x=some k' ->
  (k'=.cell\/k'=.free)->(x,NameKind.free)∈ns\/(x,NameKind.cell)∈ns
 | [],_,_,h,_=>by simp at h
 | (n,k)::r,x,k',h,hk'=>by
  rw[MF]at h
  by_cases q:x=n
  ·subst q
   by_cases z:(k==NameKind.free&&osc.kind==.function&&osc.names.lookup x==some .cell)=true
   ·have:k=.free:=by
     simp only[q0M,beq_iff_eq]at z;exact z.1.1
    subst this;exact .inl q0B
   ·simp only[z,q0W,if_false]at h
    rw[List.lookup_cons]at h;simp at h;subst h;rcases hk' with e | e
    ·subst e;exact .inr q0B
    ·subst e;exact .inl q0B
  ·have a:(x==n)=false:=by simpa using q
   refine(gS (osc:=osc) (k':=k') (ns:=r) (x:=x) ?_ hk').imp (Mr _) (Mr _)
   by_cases z:(k==NameKind.free&&osc.kind==.function&&osc.names.lookup n==some .cell)=true
   ·simp only[z,if_true]at h
    rw[List.lookup_cons,a]at h;exact h
   ·simp only[z,q0W,if_false]at h
    rw[List.lookup_cons,a]at h;exact h
theorem jU:∀(ns:List (Str×NameKind)) (n:Nat) (acc:List (Str×Addr)),cellsFrom n ns acc=cellsFrom n ns []++acc
 | [],_,_=>rfl
 | (x,k)::r,n,acc=>by
  unfold cellsFrom
  split
  ·rw[jU r (n+1) ((x,n)::acc),jU r (n+1) [(x,n)],MK];rfl
  ·exact jU r n acc
theorem ve:∀{ns:List (Str×NameKind)} {n:Nat} {x:Str} {c:Addr},(x,c)∈cellsFrom n ns []->(x,NameKind.cell)∈ns
 | [],_,_,_,h=>nomatch h
 | (y,k)::r,n,x,c,h=>by
  unfold cellsFrom at h
  split at h
  ·rename_i hk
   rw[jU]at h;rcases Mo.mp h with h | h
   ·exact Mr _ (ve h)
   ·cases Mc.mp h
    have:k=.cell:=by simpa using hk
    subst this;exact q0B
  ·exact Mr _ (ve h)
theorem vh:∀{ns:List (Str×NameKind)} {n:Nat} {x:Str} {acc:List (Str×Addr)},((x,NameKind.cell)∈ns\/∃c,acc.lookup x=some c)->∃c,(cellsFrom n ns acc).lookup x=some c
 | [],_,_,_,h=>h.elim (λz=>nomatch z) id
 | (y,k)::r,n,x,acc,h=>by
  unfold cellsFrom
  split
  ·refine vh ?_
   by_cases q:x=y
   ·subst q
    exact .inr ⟨n,by simp[List.lookup_cons]⟩
   ·have q':(x==y)=false:=by simpa using q
    rcases h with h | ⟨c,h⟩
    ·rcases Mq.mp h with z | z
     ·cases z;exact q0O rfl q
     ·exact .inl z
    ·exact .inr ⟨c,by rw[List.lookup_cons,q'];exact h⟩
  ·rename_i hk
   refine vh ?_;rcases h with h | h
   ·rcases Mq.mp h with z | z
    ·cases z;exact q0O rfl hk
    ·exact .inl z
   ·exact .inr h
def fk(env:Env)(scope:Scope)(C:Addr):List (Str×Addr):=cellsFrom (C+1) scope.names (gi env scope.names [])
theorem m9:∀{ns:List (Str×NameKind)} {n:Nat} {x:Str} {c:Addr},(x,c)∈cellsFrom n ns []->n<=c
 | [],_,_,_,h=>nomatch h
 | (y,k)::r,n,x,c,h=>by
  unfold cellsFrom at h
  split at h
  ·rw[jU]at h
   rcases Mo.mp h with h | h
   ·exact MG (Nat.le_succ _) (m9 h)
   ·cases Mc.mp h
    exact My _
  ·exact m9 h
theorem rC:∀{ns:List (Str×NameKind)} {n:Nat},(cellsFrom n ns []).Pairwise λx y=>x.2≠y.2
 | [],_=>List.Pairwise.nil
 | (y,k)::r,n=>by
  unfold cellsFrom
  split
  ·rw[jU]
   refine List.pairwise_append.mpr ⟨rC,by simp,λa ha b hb e=>?_⟩;cases Mc.mp hb;have:=m9 (x:=a.1) (c:=a.2) ha;rw[e]at this;exact q0O this (Nat.not_succ_le_self _)
  ·exact rC
theorem jz{env:Env}{scope:Scope}{c:Addr}(h:(fk env scope C).lookup x=some c) :
  ((x,c)∈cellsFrom (C+1) scope.names []/\C<c/\(x,NameKind.cell)∈scope.names)\/((cellsFrom (C+1) scope.names []).lookup x=none/\(gi env scope.names []).lookup x=some c):=by
 unfold fk at h;rw[jU,List.lookup_append]at h;cases q:(cellsFrom (C+1) scope.names []).lookup x with
 |none=>rw[q]at h;exact .inr ⟨rfl,h⟩
 |some d=>
  rw[q]at h;cases h;have:=mem_of_lookup q;exact .inl ⟨this,m9 this,ve this⟩
theorem DJ{ns:List (Str×NameKind)}{x:Str}(h:(x,NameKind.cell)∉ns):(cellsFrom n ns []).lookup x=none:=by
 cases q:(cellsFrom n ns []).lookup x with
 |none=>rfl
 |some d=>exact q0O (ve (mem_of_lookup q)) h
section
variable {M:Model}{A:Nh}{E:M5}{s:M9}
theorem gs{scope:Scope}{globals:Addr}{closure:List (Str×Addr)}{qual:Str}{func:Nj}{code:Value}{outer:Env}{builtins:Addr}{Q:Env->Shared->Prop}
  (hQ:Q (newEnv scope s.heap.objs.size globals (cellsFrom q⁻¹ scope.names closure) qual func code (some outer) builtins) {s with heap:=pushCells (s.heap.push {cls:=.type "dict",data:=.dict #[]}) scope.names}) :
  wpAny M A (newFunctionEnv scope globals closure [] qual func code (some outer) builtins) Q E s:=by
 simp only[newFunctionEnv,Option.isSome_some,if_true];simp only[newEnv]at hQ;refine q04 (wpAny_alloc ?_);refine q04 (wpAny_layCells _ (λname a cells=>by cases b:a==NameKind.cell<;>simp[b]) _ _ _ _ ?_);rw[show({s with heap:=s.heap.push {cls:=.type "dict",data:=.dict #[]} }:Shared).heap.objs.size=s.heap.objs.size+1 from Heap.size_push ..];rw[List.forIn_nil];exact q04 (q05 (q05 hQ))
end
def Cx.blk(X:Cx)(N':Ng)(s₂:M9)(H₂:Hp)(scope:Scope)(fp:Nb)(C:Addr):Cx where
 prog:=X.prog
 w:=X.w
 K:=X.K
 mg:=X.mg
 base:=X.base
 A:=X.A
 N:=N'
 s₀:=s₂
 H₀:=H₂
 env:=compEnvC scope (fk X.env scope C) C X.env
 outer:=X.stack
 stack:=X.stack
 ex:=fp
 fn:=λx=>scope.names.contains (x,NameKind.cell)
 calm:=X.calm
 pn:=[]
 xe:=λ_ _=>False
def tG(k:Nat)(js:M8)(σ:St):St:=List.replicate k none++js.map λj=>(σ[j]?).join
def qy(own:Ng)(js:M8)(N:Ng):List Str:=own++js.map λj=>N.getD j Str.empty
section
variable {X:Cx}
theorem Inv.capFree{pins:M7}{σ:St}{scope:Scope}(I:Inv X pins σ H s)(hk:bI scope X.env.scope):∀x∈scope.names,x.2=.free->∃c,X.env.cells.lookup x.1=some c:=
 λx hx e=>I.ok.has x.1 (hk.free x hx e)
theorem Inv.capL{pins:M7}{σ:St}{scope:Scope}{c:Addr}(I:Inv X pins σ H s)(hk:bI scope X.env.scope)(e:(gi X.env scope.names []).lookup x=some c):X.env.cells.lookup x=some c:=
 je (I.capFree hk) (λ_ _ z=>by simp at z) e
theorem Inv.blkL{pins:M7}{σ:St}{scope:Scope}{c:Addr}(I:Inv X pins σ H s)(hk:bI scope X.env.scope)(e:(fk X.env scope C).lookup x=some c) :
  ((x,c)∈cellsFrom (C+1) scope.names []/\C<c/\(x,NameKind.cell)∈scope.names)\/X.env.cells.lookup x=some c:=
 (jz e).imp id λz=>I.capL hk z.2
theorem G9{pins:M7}{σ:St}{scope:Scope}{fp:Nb}{C:Addr}(I:Inv X pins σ H s)(hk:bI scope X.env.scope)(hC:s.heap.objs.size<=C)
  (hf:∀b∈fp,pH X pins H b) (ho:∀b∈fp,∃o,s.heap.get? b=some o):(X.blk N' s H scope fp C).Ok where
 mod:=I.ok.mod
 kind:=hk.kind
 glob:=I.ok.glob
 blt:=I.ok.blt
 above:=hC
 inj:=λx y c e1 e2=>by
  have low:∀z,X.env.cells.lookup z=some c->c<C:=λz e=>by
   obtain⟨v,q⟩:=I.cell z c e;exact Mt q.lt hC
  rcases I.blkL hk e1 with⟨a1,a2,_⟩ | a<;>rcases I.blkL hk e2 with⟨b1,b2,_⟩ | b
  ·exact name_of_addr rC a1 b1
  ·exact q0O (low _ b) (Nat.not_lt.mpr (q0N a2))
  ·exact q0O (low _ a) (Nat.not_lt.mpr (q0N b2))
  ·exact I.ok.inj x y c a b
 has:=λx h=>by
  refine vh ?_;have z:(x,NameKind.free)∈scope.names\/(x,NameKind.cell)∈scope.names:=by
   rcases h with h | h
   ·exact gS (osc:=X.env.scope) h (.inl rfl)
   ·exact gS (osc:=X.env.scope) h (.inr rfl)
  rcases z with z | z
  ·exact .inr (pY (.inr z))
  ·exact .inl z
 cab:=λx c z e=>by
  have l:(x,NameKind.cell)∈scope.names:=by
   have k:scope.names.contains (x,NameKind.cell)=true:=z
   simpa using k
  have j:(fk X.env scope C).lookup x=some c:=e;rcases jz j with⟨_,a,_⟩ | ⟨a,_⟩
  ·exact MG hC (q0N a)
  ·obtain⟨d,q⟩:=vh (n:=C+1) (acc:=[]) (.inl l)
   rw[a]at q;cases q
 hd:=I.ok.hd
 frames:=I.ok.frames
 stk:=.inl rfl
 exf:=λb g=>⟨λe=>by
  obtain⟨o,q⟩:=ho b g;have j:b=C:=e;rw[j]at q;exact q0O (MB q) (Nat.not_lt.mpr hC),λx c e=>by
  rcases I.blkL hk e with⟨_,a,_⟩ | a
  ·obtain⟨o,q⟩:=ho b g
   intro z;rw[z]at a;exact q0O (Mt (MB q) hC) (Nat.not_lt.mpr (q0N a))
  ·exact(hf b g).2.2.2.2.1 x c a⟩
 bs:=I.bs
 bsz:=MG I.ok.bsz I.sz
 noex:=λb o e g=>by
  rcases(hf b g).2.2.2.1 with z | z
  ·exact I.ok.noex b o e z
  ·exact q0O (MB (I.ok.bs b o e).1) (Nat.not_lt.mpr z)
 exfs:=λb g m=>by
  rcases Mq.mp (I.stkSub b m) with z | z
  ·exact(hf b g).2.1 z
  ·exact(hf b g).2.2.1 z
 funs:=I.stack
 frf:=I.stkFree
theorem Cb{pins:M7}{σ:St}{s1:M9}{own:Ng}{js:M8}{scope:Scope}{fp:Nb}{C:Addr}(I:Inv X pins σ H s)(hk:bI scope X.env.scope)(hC:s.heap.objs.size<=C)
  (hf:∀b∈fp,pH X pins H b) (ho:∀b∈fp,∃o,s.heap.get? b=some o) (hos:s1.os=s.os) (hg:s1.gens=s.gens) (hn:s1.heap.Ns C m) (keep:∀b o,s.heap.get? b=some o->s1.heap.get? b=some o)
  (hown:∀x c,(x,c)∈cellsFrom (C+1) scope.names []->s1.heap.IsCell c none) (hcap:(js.all λj=>scope.names.contains (X.N.getD j Str.empty,NameKind.free))=true) :
  Inv s⁻¹ [] (tG own.length js σ) H s1:=by
 have cl:=fun{x:Str} {c:Addr} (e:(gi X.env scope.names []).lookup x=some c)=>je (I.capFree hk) (λ_ _ z=>by simp at z) e;refine⟨G9 I hk hC hf ho,hos,hg▸I.bare,Un.kept keep,⟨m,hn,λi x v e1 e2 Z=>?_⟩,λx c e=>?_,I.hok.fresh hC,λx c e=>(I.blkL hk e).elim (λz=>I.hok.fresh (MG hC (q0N z.2.1))) λz=>I.freeC x c z,λp R=>(nomatch R),I.hok.kept keep,?_⟩
 ·have g:(own++js.map λj=>X.N.getD j Str.empty)[i]?=some x:=e1
  have a:(List.replicate own.length none++js.map λj=>(σ[j]?).join)[i]?=some (some v):=e2
  by_cases B:i<own.length
  ·rw[Mw (by rw[List.length_replicate];exact B),List.getElem?_replicate,q07 B]at a
   cases a
  ·have l:own.length<=i:=Nat.le_of_not_lt B
   rw[Mv (by rw[List.length_replicate];exact l),List.length_replicate,Md]at a;rw[Mv l,Md]at g;cases D:js[i-own.length]? with
   |none=>rw[D]at g;cases g
   |some j=>
    rw[D]at g a;have L:X.N.getD j Str.empty=x:=q0Q g;have r:(σ[j]?).join=some v:=q0Q a;have J:σ[j]?=some (some v):=by
     cases q:σ[j]? with
     |none=>rw[q]at r;cases r
     |some z=>rw[q]at r;simp at r;rw[r]
    have y:j<X.N.length:=by rw[<- I.len];exact(L'.mp J).1
    have U:X.N[j]?=some x:=by rw[<- L,q0A,L_ y];rfl
    have w:(x,NameKind.free)∈scope.names:=by
     have q:=MS.mp hcap j (Me D);rw[L]at q
     simpa using q
    have G:=hk.free _ w rfl;obtain⟨mo,hno,S⟩:=I.loc;obtain⟨u,M,O⟩:=S j x v U J (G.elim (λz=>.inr (.inl z)) λz=>.inr (.inr z));refine⟨u,M,?_⟩;rcases O with⟨k,_⟩ | ⟨k,c,Y,T⟩
    ·rcases G with z | z
     ·rw[show X.env.kindOf x=X.env.scope.names.lookup x from rfl,z]at k;cases k
     ·rw[show X.env.kindOf x=X.env.scope.names.lookup x from rfl,z]at k;cases k
    ·obtain⟨c',n⟩:=pY (env:=X.env) (ns:=scope.names) (acc:=[]) (x:=x) (.inr w)
     have:=cl n;rw[Y]at this;cases this;refine .inr ⟨?_,c,?_,T.keeps keep⟩
     case refine_2=>
      show(fk X.env scope C).lookup x=some c;unfold fk;rw[jU,List.lookup_append,DJ (hk.sep _ w rfl)];exact n
     -- its kind within the block
     rcases Z with z | z | z
     ·exact q0O z (hk.nl _ w rfl)
     ·exact .inl z
     ·exact .inr z
 ·rcases I.blkL hk e with z | z
  ·exact⟨none,hown x c z.1⟩
  ·obtain⟨v,z⟩:=I.cell x c z
   exact⟨v,z.keeps keep⟩
 ·show(List.replicate own.length none++js.map λj=>(σ[j]?).join).length=(own++js.map λj=>X.N.getD j Str.empty).length
  simp
def GD(env:Env)(ifs:Nk):Sem Bool:=forIn ifs true λc r=>if r=true then do let ok <- isTrue c env (eval c env);pure (ForInStep.yield ok) else pure (ForInStep.yield r)
theorem vE{prog:Nf}{A:Nh}{R:Result->Shared->Prop}{s:M9}{elt target iter:Expr}{ifs:Nk}{scope:Scope}{pos:Pos}{it acc:Value}{env:Env}(I:Nat->Shared->Prop)
  (turn:∀n s,I n s->wpAny d⁻¹ A (pyNext it) (λr s₁=>match r with
   |none=>R (.ok .next) s₁
   |some v=>wpAny d⁻¹ A (letOwnedTupleGo target it v) (λ_ s₁'=>wpAny d⁻¹ A (assign target env v) (λ_ s₂=>
     wpAny d⁻¹ A (GD env ifs) (λok s₃=>
      if ok=true then wpAny d⁻¹ A (eval elt env) (λx s₄=>
       wpAny d⁻¹ A (call (.builtin "list.append") [acc,x]) (λ_ s₅=>∃m,m<n/\I m s₅) (λ_ _=>False) s₄) (λ_ _=>False) s₃
      else ∃m,m<n/\I m s₃) (λ_ _=>False) s₂) (λ_ _=>False) s₁') (λ_ _=>False) s₁) (λ_ _=>False) s)
  (n:Nat) (h:I n s) :
  codeAny d⁻¹ A (.compLoop (.ListComp elt [⟨target,iter,ifs,0⟩] scope pos) 0 it acc env) R s:=by
 refine codeAny_loop rfl I (λn s o=>?_) n h;show wpAny _ A ((compTurn (.ListComp elt [⟨target,iter,ifs,0⟩] scope pos) 0 it acc env).onRaise (λx=>do noteFrame x env;theTreesLotGoes x)) _ _ s;refine wpAny_noted ?_;rw[compTurn_list];have up:∀{α:Type} {t:Sem α} {Q Q':α->Shared->Prop} {E':M5} {s:M9},wpAny d⁻¹ A t Q (λ_ _=>False) s->(∀a s,Q a s->Q' a s)->wpAny d⁻¹ A t Q' E' s:=
  λh l=>q0T h l λ_ _ f=>f.elim
 refine q04 (wpAny_standAt (q04 (up (turn n s o) λr s₁ e=>?_)));cases r with
 |none=>exact q05 e
 |some v=>
  refine q04 (up e λ_ s₁' b=>q04 (up b λ_ s₂ k=>q04 (up k λok s₃ c=>?_)));cases ok with
  |false=>exact q05 ⟨rfl,c⟩
  |true=>
   exact q04 (q04 (up c λx s₄ j=>q04 (up j λ_ s₅ g=>q05 (q05 ⟨rfl,g⟩))))
def Io(X:Cx)(ifs:Nk)(t:TT):Prop:=
 ∀(pins:M7) (s:M9) (σ:St) (H:Hp) (Q:Bool->Hp->Prop),Inv X pins σ H s->t σ H Q->wpAny c⁻¹ X.A (GD X.env ifs) (TP X pins σ Q) X.xe s
def Ai:TT:=λ_ H Q=>Q true H
theorem bW:Io X [] Ai:=λpins s σ H Q I h=>wpAny_tests_nil ⟨H,I,h⟩
theorem Gf{t:TT}(h:PT X c t):Io X [c] t:=λpins s σ H Q I q=>wpAny_tests_one (h pins s σ H Q I q)
def iK(J:It)(g:TG)(ti:TT)(te:TE)(σ:St)(H:Hp)(Q:List V->Hp->Prop):Prop:=
 ∃W:Nat->Nat->List V->St->Hp->Prop,(∃m,W 0 m [] σ H)/\∀i m acc σ' H',W i m acc σ' H' ->
  acc.length<sizeLine/\((J.stop i H'/\Q acc H') \/
   (J.go i H'/\∃N:List V->St->Hp->Prop,(∀acc' σ2 H2,N acc' σ2 H2->∃m',m'<m/\W (i+1) m' acc' σ2 H2) /\
    ∀x H2,J.yld i H' x H2->g x σ' H2 λσ2 H3=>ti σ2 H3 λb H4=>if b=true then te σ2 H4 λv H5=>N (acc++[v]) σ2 H5 else N acc σ2 H4))
def AG(k:Nat)(js:M8)(wi:TI)(g:TG)(ti:TT)(te:TE):TE:=λσ H Q=>wi σ H λJ H1=>iK J g ti te (tG k js σ) H1 λacc H'=>∀l,H' l=none->Q (.ref l) (aA H' l (.lst acc))
abbrev iF(its:Na)(n:Nat):Obj:={cls:=.type "list",data:=.seq its.toArray n}
theorem tL{pins:M7}{σ:St}{H:Hp}{s:M9}{elt tg iter:Expr}{ifs:Nk}{scope:Scope}{pos:Pos}{own:Ng}{js:M8}{ti:TT}{te:TE}{fp:Nb}{it:Addr}{tn:Nat->Heap->Prop}{E:M5}
  {RR:Value->Addr->Result->Shared->Prop} (hc:X.calm=true) (hk:bI scope X.env.scope) (hcap:(js.all λj=>scope.names.contains (X.N.getD j Str.empty,NameKind.free))=true)
  (hg:∀s H fp C,PG s⁻¹ tg g) (hi:∀s H fp C,Io s⁻¹ ifs ti) (he:∀s H fp C,PE s⁻¹ elt te)
  (I:Inv X pins σ H s) (T:rR X.prog X.w X.K tg J fp it tn) (st:tn 0 s.heap) (hf:∀b∈fp,pH X pins H b)
  (hW:iK J g ti te (tG own.length js σ) H Q)
  (hRR:∀(D C:Addr) (s':M9) (H':Hp) (acc:List V) (m:Nc),Q acc H'->H' D=none->Inv X pins σ (aA H' D (.lst acc)) s'->s'.heap.Ns C m->aA H' D (.lst acc) C=none->C≠X.env.locals->X.s₀.heap.objs.size<=C ->
   (∀x c,X.env.cells.lookup x=some c->c≠C)->(∀p∈X.pn++pins,p.1≠C)->RR (.ref D) C (.ok .next) s') :
  wpAny c⁻¹ X.A (newList []) (λacc s₃=>wpAny c⁻¹ X.A (newFunctionEnv scope X.env.globals (gi X.env scope.names []) [] X.env.qual none .none (some X.env)) (λcenv s₄=>
   codeAny c⁻¹ X.A (.compStart (.ListComp elt [⟨tg,iter,ifs,0⟩] scope pos) 0 (.ref it) acc {cenv with scope:=relabel scope X.env}) (RR acc cenv.locals) s₄) E s₃) E s:=by
 obtain⟨W,⟨m0,w0⟩,c3⟩:=hW;refine wpAny_newObj_type (gs ?_);dsimp only;generalize c0:s.heap.push {cls:=.type "list",dict:=none,data:=.seq ([]:List Value).toArray}=H2;generalize d6:pushCells (H2.push {cls:=.type "dict",data:=.dict #[]}) scope.names=h₁;have b2:∀b o,(H2.push {cls:=.type "dict",data:=.dict #[]}).get? b=some o->h₁.get? b=some o:=λb o e=>d6▸pushCells_keeps _ _ b o e;have d0:h₁.Ns H2.objs.size λ_=>none:=by
  have q:(H2.push {cls:=.type "dict",data:=.dict #[]}).Ns H2.objs.size λ_=>none:=Heap.Ns.new ..;exact q.at' λo e=>b2 _ o e
 have b3:∀x c,(x,c)∈cellsFrom (H2.objs.size+1) scope.names []->h₁.IsCell c none:=λx c e=>by
  have ok:=cellsFrom_ok scope.names (H2.push {cls:=.type "dict",data:=.dict #[]}) (H2.objs.size+1) [] ⟨λ_ _ hm=>(nomatch hm),List.Pairwise.nil⟩ (by rw[Heap.size_push];exact My _);rw[Heap.size_push,d6]at ok;exact(ok.empty x c e).1
 have hC:H2.objs.size=s.heap.objs.size+1:=by rw[<- c0,Heap.size_push]
 have c1:s.heap.objs.size≠H2.objs.size:=by rw[hC];exact Mu (MI _)
 have L:s.heap.objs.size<=H2.objs.size:=by rw[hC];exact Nat.le_succ _
 have c2:∀b,b<s.heap.objs.size->b≠H2.objs.size/\b≠s.heap.objs.size:=λb l=>⟨by rw[hC];exact Mu (Nat.lt_succ_of_lt l),Mu l⟩;have old:∀b o,s.heap.get? b=some o->h₁.get? b=some o:=λb o e=>b2 b o (Ma _ (c0▸Ma _ e));have d7:h₁.get? s.heap.objs.size=some (iF [] 0):=b2 _ _ (Ma _ (c0▸Mg _ rfl));have a0:∀b∈fp,∃o,s.heap.get? b=some o:=λb l=>let ⟨o,e,_⟩:=T.obj 0 _ st b l;⟨o,e⟩
 have c4:tn 0 h₁:=T.keep 0 _ _ st λb _ o e=>old b o e;generalize B:X.blk (qy own js X.N) s H scope fp H2.objs.size=Xb;have I₁:Inv Xb [] (tG own.length js σ) H {s with heap:=h₁}:=B▸Cb I hk L hf a0 rfl rfl d0 old b3 hcap;have eP:Xb.prog=X.prog:=by rw[<- B];rfl
 have ew:Xb.w=X.w:=by rw[<- B];rfl
 have eK:Xb.K=X.K:=by rw[<- B];rfl
 have eA:Xb.A=X.A:=by rw[<- B];rfl
 have ec:Xb.calm=true:=by rw[<- B];exact hc
 have eE:Xb.env=compEnvC scope (fk X.env scope H2.objs.size) H2.objs.size X.env:=by rw[<- B];rfl
 have ex:Xb.xe=λ_ _=>False:=by rw[<- B];rfl
 have es:Xb.s₀=s:=by rw[<- B];rfl
 have eh:Xb.H₀=H:=by rw[<- B];rfl
 have ef:Xb.fs=nI X.stack:=by rw[<- B];rfl
 have e1:Xb.ex=fp:=by rw[<- B];rfl
 have ep:Xb.pn=[]:=by rw[<- B];rfl
 have eL:Xb.env.locals=H2.objs.size:=by rw[eE];rfl
 have f0:H s.heap.objs.size=none:=I.hok.fresh (My _)
 -- D is no iterator's,no frame's
 have d9:∀b∈fp,b≠s.heap.objs.size:=λb l e=>by
  obtain⟨o,q⟩:=a0 b l;rw[e]at q;exact q0O (MB q) (MH _)
 have e9:s.heap.objs.size∉Xb.fs:=λz=>by
  rw[ef]at z;rcases Mq.mp (I.stkSub _ z) with q | q
  ·exact q0O I.lt (by rw[<- q];exact MH _)
  ·exact I.nofs (My _) q
 have a5:∀x c,Xb.env.cells.lookup x=some c->c≠s.heap.objs.size:=λx c e q=>by
  rcases I.blkL hk (C:=H2.objs.size) (x:=x) (c:=c) (by rw[eE]at e;exact e) with⟨_,z,_⟩ | z
  ·rw[q]at z
   exact q0O L (Nat.not_le.mpr z)
  ·obtain⟨v,o,ho,_⟩:=I.cell x c z
   rw[q]at ho;exact q0O (MB ho) (MH _)
 have R:∀{pl:M7} {H':Hp},(∀b∈fp,H' b=none)->(∀p∈pl,p.1=s.heap.objs.size)->∀b∈fp,pH Xb pl H' b:=λhn S b l=>by
  refine⟨hn b l,?_,?_,.inl (by rw[e1];exact l),λx c e=>?_,λp c9=>?_⟩
  ·rw[eL];exact(c2 b (let ⟨o,q⟩:=a0 b l;MB q)).1
  ·rw[ef];intro z
   rcases Mq.mp (I.stkSub b z) with q | q
   ·exact(hf b l).2.1 q
   ·exact(hf b l).2.2.1 q
  ·rcases I.blkL hk (C:=H2.objs.size) (x:=x) (c:=c) (by rw[eE]at e;exact e) with⟨_,z,_⟩ | z
   ·intro q
    rw[q]at z;obtain⟨o,q2⟩:=a0 b l;exact q0O (Mt (MB q2) L) (Nat.not_lt.mpr (q0N z))
   ·exact(hf b l).2.2.2.2.1 x c z
  ·rw[ep,MV]at c9
   rw[S p c9];exact(d9 b l).symm
 have a6:∀s₃:Shared,s₃={s with heap:=h₁} ->
   codeAny c⁻¹ X.A (.compLoop (.ListComp elt [⟨tg,iter,ifs,0⟩] scope pos) 0 (.ref it) r⁻¹ (compEnvC scope (fk X.env scope H2.objs.size) H2.objs.size X.env))
    (RR r⁻¹ H2.objs.size) s₃:=by
  rintro s₃ rfl;refine vE (λn s'=>∃(i:Nat) (acc:List V) (a:Na) (k:Nat) (σ':St) (H':Hp),Inv Xb [] σ' H' s'/\tn i s'.heap/\(∀b∈fp,H' b=none)/\H' s.heap.objs.size=none/\s'.heap.get? s.heap.objs.size=some (iF a k)/\bd acc a/\W i n acc σ' H')
   ?_ m0 ⟨0,[],[],0,_,H,I₁,c4,λb l=>(hf b l).1,f0,d7,.nil,w0⟩
  rintro n s' ⟨i,acc,a,k,σ',H',I',st',e0,M,e4,Z,w'⟩;obtain⟨d1,tt⟩:=c3 i n acc σ' H' w'
  -- the gathered list,pinned
  have Ip:Inv Xb [(s.heap.objs.size,iF a k)] σ' H' s':=I'.pins_of λp S=>by
   have e:p=(s.heap.objs.size,iF a k):=by simpa using S
   subst e;exact⟨e4,M,by rw[eL];exact c1,e9,λv z=>by cases z⟩
  have b1:∀p∈[(s.heap.objs.size,iF a k)],p.1=s.heap.objs.size:=λp S=>by
   have e:p=(s.heap.objs.size,iF a k):=by simpa using S
   rw[e]
  rcases tt with⟨c6,q⟩ | ⟨go,N,hN,step⟩
  ·have d:=T.done Xb eP ew eK ec i _ s' σ' H' (λ_ _=>False) Ip (R e0 b1) st' c6
   rw[eA]at d;refine q0T d (λr s1 hr=>?_) λ_ _ z=>z;obtain⟨rfl,I1⟩:=hr;have e3:s1.heap.get? s.heap.objs.size=some (iF a k):=(I1.pin _ (q0C _ (Mc.mpr rfl))).1;obtain⟨mC,b4,_⟩:=I1.loc;rw[eL]at b4;obtain⟨oC,_,_,hoC,_⟩:=id b4;have f1:H' H2.objs.size=none:=by have:=I1.free;rwa [eL]at this
   have ub:Un (nI X.stack) fp H H' s.heap s1.heap:=by have:=I1.base;rwa [ef,e1,eh,es]at this
   refine hRR _ _ s1 H' acc mC q M ?_ b4 ?_ ?_ ?_ ?_ ?_
   ·-- uZ outside
    refine I.call' (ch:=fp) (by have:=I1.os;rwa [es]at this) ⟨λb o e n1 h1 h2=>ub.keep b o e n1 h1 h2,λb o e n1 h1 h2=>ub.slot b o e n1 h1 h2,λb o e n1 h1=>?_,ub.there,λb xs e=>?_,λb o u e=>?_,λb ps e=>?_⟩ ?_ (by have:=I1.bare;exact this) λb l=>?_
    ·rw[ao (λz=>by rw[z]at e;exact q0O (MB e) (MH _))]
     exact ub.free b o e n1 h1
    ·rw[ao (aG (ub.tups b xs e) M)]
     exact ub.tups b xs e
    ·rw[ao (aG (ub.frzs b o u e) M)]
     exact ub.frzs b o u e
    ·obtain⟨more,z⟩:=ub.tbls b ps e
     exact⟨more,by rw[ao (aG z M)];exact z⟩
    ·intro b u e
     have a7:=I1.hok;rw[eP,ew]at a7
     by_cases l:b=s.heap.objs.size
     ·subst l
      rw[ad]at e;cases e;exact⟨q0N d1,a,k,Z,e3⟩
     ·rw[ao l]at e
      refine(a7 b u e).stay (λc v _ z=>z) (λc z=>?_) λc xs z=>?_
      ·rw[ao (aG z M)];exact z
      ·rw[ao (aG z M)];exact z
    ·exact⟨(hf b l).2.2.2.1,(hf b l).2.1,(hf b l).2.2.2.2.1,(hf b l).2.2.2.2.2⟩
   ·rw[ao c1.symm];exact f1
   ·intro z;have:=I.lt;rw[<- z]at this;exact q0O this (Nat.not_lt.mpr L)
   ·exact MG I.sz L
   ·intro x c e z
    obtain⟨v,o,ho,_⟩:=I.cell x c e;rw[z]at ho;exact q0O (MB ho) (Nat.not_lt.mpr L)
   ·intro p S z
    have:=(I.pin p S).1;rw[z]at this;exact q0O (MB this) (Nat.not_lt.mpr L)
  ·have d:=T.item Xb eP ew eK ec i _ s' σ' H' (λ_ _=>False) Ip (R e0 b1) st' go
   rw[eA]at d;refine q0T d (λr s1 hr=>?_) λ_ _ z=>z;obtain⟨u,rfl,d2⟩:=hr;refine q0T d2 (λ_ s2 e8=>?_) λ_ _ z=>z;obtain⟨x,e2,I2,r2,y2,a9,f2⟩:=e8;have f3:=I2.pinned (R f2 b1) (T.obj _ _ a9);have G:=B▸hg s H fp H2.objs.size;have d3:=G _ s2 σ' e2 x u _ f3 r2 (step x e2 y2);rw[eP,ew,eA,ex,eE]at d3;refine q0T d3 (λ_ s3 e7=>?_) λ_ _ z=>z;obtain⟨σ3,H3,I3,q3⟩:=e7;have Gi:=B▸hi s H fp H2.objs.size;have d4:=Gi _ s3 σ3 H3 _ I3 q3;rw[eP,ew,eA,ex,eE]at d4;refine q0T d4 (λb s4 e6=>?_) λ_ _ z=>z;obtain⟨H4,I4,q4⟩:=e6;have U:∀{O:M9} {Y:Hp} {σ5:St},Inv Xb ([(s.heap.objs.size,iF a k)]++qQ fp s2.heap) σ5 Y O->O.heap.get? s.heap.objs.size=some (iF a k)/\Y s.heap.objs.size=none/\tn (i+1) O.heap/\∀b∈fp,Y b=none:=fun{O Y σ5} I5=>by
    have pD:=I5.pin (s.heap.objs.size,iF a k) (q0C _ (q0D _ (Mc.mpr rfl)));refine⟨pD.1,pD.2.1,T.keep _ _ _ a9 λb l o e=>(I5.pin (b,o) (q0C _ (q0C _ (jj l e)))).1,λb l=>?_⟩;obtain⟨o,e,_⟩:=T.obj _ _ a9 b l;exact(I5.pin (b,o) (q0C _ (q0C _ (jj l e)))).2.1
   have bare:∀{O:M9} {Y:Hp} {σ5:St} {pl:M7},Inv Xb pl σ5 Y O->Inv Xb [] σ5 Y O:=λI5=>I5.pins_of λp S=>nomatch S;cases b with
   |false=>
    obtain⟨m',hm,w5⟩:=hN _ _ _ q4;obtain⟨a1,a2,a3,a4⟩:=U I4;exact⟨m',hm,i+1,acc,a,k,σ3,H4,bare I4,a3,a4,a2,a1,Z,w5⟩
   |true=>
    have Ge:=B▸he s H fp H2.objs.size;have d5:=Ge _ s4 σ3 H4 _ I4 q4;rw[eP,ew,eA,ex,eE]at d5;refine q0T d5 (λy O e5=>?_) λ_ _ z=>z;obtain⟨v,Y,I5,r5,q5⟩:=e5;obtain⟨m',hm,w5⟩:=hN _ _ _ q5;obtain⟨a1,a2,a3,a4⟩:=U I5;have hl:=Z.length;refine call_meets F.slot_list_append ⟨_,a1,rfl⟩ F.entry_list_append (F.args_list_append_2 _ _) (PySem.list_append s.heap.objs.size a.toArray k y (by rw[Mh];omega)) ⟨a1,?_⟩;have qu:=PySem.IsL.update a1 (λa8=>a8.push y);have qe:(a.toArray.push y)=(a++[y]).toArray:=by simp
    rw[qe]at qu;have I6:Inv Xb [] σ3 Y {O with heap:=O.heap.update s.heap.objs.size (Obj.mapSeq λa8=>a8.push y),toks:=O.toks}:=
     (bare I5).turned (λb o l e=>(Mf O.heap _ (Ne.symm l)).trans e) a2 (by rw[eL];exact c1) (.inr (by rw[es];exact My _)) a5 (by rw[ep];intro p S;exact nomatch S)
    refine⟨m',hm,i+1,acc++[v],a++[y],_,σ3,Y,I6,T.keep _ _ _ a3 (λb l o e=>(Mf O.heap _ (d9 b l).symm).trans e),a4,a2,qu,Z.append (.cons r5 .nil),w5⟩
 refine codeAny_compStart_list (a6 _ rfl) ?_;exact T.self _ 0 _ _ _ c4 (a6 _ rfl)
theorem cH{elt tg iter:Expr}{ifs:Nk}{scope:Scope}{pos:Pos}(own:Ng)(js:M8){wi:TI}{g:TG}{ti:TT}{te:TE}(hc:X.calm=true)(hk:bI scope X.env.scope)
  (hcap:(js.all λj=>scope.names.contains (X.N.getD j Str.empty,NameKind.free))=true) (hw:PI X tg iter wi)
  (hg:∀s H fp C,PG s⁻¹ tg g) (hi:∀s H fp C,Io s⁻¹ ifs ti) (he:∀s H fp C,PE s⁻¹ elt te)
  (hs:autoParam (∀x,foldedSetIterable iter X.env x=pure x) zz4._auto_1):PE X (.ListComp elt [⟨tg,iter,ifs,0⟩] scope pos) (AG own.length js wi g ti te):=by
 intro c s σ H Q I h;rw[eval_ListComp];refine wpAny_comprehension_free (use:=none) rfl hs (jL (I.capFree hk)) hk.kind hk.loc (bV (hw c s σ H _ I h) λv s1 h1=>bV h1 λitv s2 h2=>?_);obtain⟨it,fp,tn,J,H2,rfl,Y,T,k,U,R⟩:=h2;refine tL (RR:=λa C=>compPost c⁻¹ X.A X.xe none (EP X c σ Q) a C) (Q:=λa B=>∀l,B l=none->Q (.ref l) (aA B l (.lst a))) hc hk hcap hg hi he Y T k U R ?_;intro D C L B a m q S Z M y u n r p;refine⟨m,M,λh' G=>?_⟩;exact⟨.ref D,_,Z.turned (t':=L.toks) (λb o O e=>(G.2 b O).trans e) y u (.inr n) r p,rfl,q D S⟩
theorem gF{i:Nat}{x:Str}{elt tg iter:Expr}{ifs:Nk}{scope:Scope}{pos spos:Pos}{px:Pos}(own:Ng)(js:M8){wi:TI}{g:TG}{ti:TT}{te:TE}(hN:X.N.Nodup)(hxi:X.N[i]?=some x)(hx:Loc X.env.scope x)
  (hsw:swapsWith (.ListComp elt [⟨tg,iter,ifs,0⟩] scope pos) (some (.Name x px)) spos.line X.env=pure true)
  (hc:X.calm=true) (hk:bI scope X.env.scope)
  (hcap:(js.all λj=>scope.names.contains (X.N.getD j Str.empty,NameKind.free))=true) (hw:PI X tg iter wi)
  (hg:∀s H fp C,PG s⁻¹ tg g) (hi:∀s H fp C,Io s⁻¹ ifs ti) (he:∀s H fp C,PE s⁻¹ elt te)
  (hs:autoParam (∀x,foldedSetIterable iter X.env x=pure x) zz4._auto_1) (hf:autoParam t⁻¹ zz3._auto_1) :
  PS X (.Assign [.Name x px] (.ListComp elt [⟨tg,iter,ifs,0⟩] scope pos) spos) (zE (AG own.length js wi g ti te) (lS i)):=by
 intro c s σ H Dn I h;rw[exec_Assign_Name_used _ _ _ _ hsw];refine q04 (wpAny_standAt (q04 ?_));show wpAny _ _ (do let _ <- comprehension (.ListComp elt [⟨tg,iter,ifs,0⟩] scope pos) scope X.env _ (newList []) false (eval iter X.env) (some (assign (.Name x px) X.env))) _ _ s;refine q04 (q0T (wpAny_comprehension_free (use:=some (assign (.Name x px) X.env)) (Q:=λ_ n=>SP X c Dn .next n) (E:=X.xe) rfl hs (jL (I.capFree hk)) hk.kind hk.loc ?_) (λ_ n q=>q05 (q05 q)) λ_ _ z=>z);refine(bV (hw c s σ H _ I h) λv s1 h1=>bV h1 λitv s2 h2=>?_);obtain⟨it,fp,tn,J,H2,rfl,I2,T,u,f2,hW⟩:=h2;refine tL (RR:=λk C=>compPost c⁻¹ X.A X.xe (some (assign (.Name x px) X.env)) (λ_ n=>SP X c Dn .next n) k C) (Q:=λk U=>∀l,U l=none->lS i (.ref l) σ (aA U l (.lst k)) Dn.nx) hc hk hcap hg hi he I2 T u f2 hW ?_;intro D C n U k m q hD I' Y R r L p M;show wpAny _ _ (assign (.Name x px) X.env (.ref D)) _ _ n;refine wpAny_assign_Name (tz I' hN hxi hx (v:=.ref D) rfl (λG S B=>?_) hf);obtain⟨a,B,ha⟩:=B;have O:C≠a:=by
  rcases ha with z | z
  ·rw[z];exact r
  ·exact(p x a z).symm
 refine⟨m,Y.sameBut B O,λh' y=>?_⟩;exact⟨_,_,S.turned (t':=G.toks) (λb o Z e=>(y.2 b Z).trans e) R r (.inr L) p M,q D hD⟩
end
section
variable {K:M6}{g:TG}{ti:TT}{te:TE}{σ:St}{H:Hp}{Q:List V->Hp->Prop}
theorem jt{J:It}{n:Nat}(Pv:Nat->List V->St->Hp->Prop)(h0:Pv 0 [] σ H)(hz:∀i acc σ H,Pv i acc σ H->acc.length<sizeLine)(hi:∀i acc σ H,Pv i acc σ H->i<=n)
  (stop:∀acc σ H,Pv n acc σ H->J.stop n H) (go:∀i acc σ H,i<n->Pv i acc σ H->J.go i H)
  (hs:∀i x acc σ H H2,i<n->Pv i acc σ H->J.yld i H x H2->g x σ H2 λσ2 H3=>ti σ2 H3 λb H4=>if b=true then te σ2 H4 λv H5=>Pv (i+1) (acc++[v]) σ2 H5 else Pv (i+1) acc σ2 H4)
  (he:∀acc σ H,Pv n acc σ H->Q acc H) :
  iK J g ti te σ H Q:=by
 refine⟨λi m acc σ H=>Pv i acc σ H/\m=n+1-i,⟨n+1,h0,rfl⟩,?_⟩;rintro i m acc σ' a ⟨w,rfl⟩;refine⟨hz i acc σ' a w,?_⟩;have hle:=hi i acc σ' a w;rcases Nat.lt_or_ge i n with c | hge
 ·refine .inr ⟨go i acc σ' a c w,λacc' σ2 H2=>Pv (i+1) acc' σ2 H2,λacc' σ2 H2 w2=>⟨n+1-(i+1),?_,w2,rfl⟩,λx H2 y=>hs i x acc σ' a H2 c w y⟩
  have:=hi (i+1) acc' σ2 H2 w2;omega
 ·have e:i=n:=by omega
  subst e;exact .inl ⟨stop acc σ' a w,he acc σ' a w⟩
theorem nF{xs:List V}(Pv:Nat->List V->St->Hp->Prop)(h0:Pv 0 [] σ H)(hz:∀i acc σ H,Pv i acc σ H->acc.length<sizeLine)(hi:∀i acc σ H,Pv i acc σ H->i<=xs.length)
  (hl:∀i acc σ H,Pv i acc σ H->aO K H a xs)
  (hs:∀i x acc σ H,xs[i]?=some x->Pv i acc σ H->g x σ H λσ2 H3=>ti σ2 H3 λb H4=>if b=true then te σ2 H4 λv H5=>Pv (i+1) (acc++[v]) σ2 H5 else Pv (i+1) acc σ2 H4)
  (he:∀acc σ H,Pv xs.length acc σ H->Q acc H):iK (Fc K a) g ti te σ H Q:=by
 exact jt (J:=Fc K a) (g:=g) (ti:=ti) (te:=te) (Q:=Q) (n:=xs.length) Pv h0 hz hi (λacc σ H w=>⟨xs,hl _ _ _ _ w,My _⟩)
  (λi acc σ H hlt w=>⟨xs,xs[i],hl _ _ _ _ w,L_ hlt⟩) (λi x acc σ H H2 hlt w y=>by obtain⟨rfl,c⟩:=y;exact hs i x acc σ H2 (c xs (hl _ _ _ _ w)) w) he
theorem fH{lo:Int}{n:Nat}(Pv:Nat->List V->St->Hp->Prop)(h0:Pv 0 [] σ H)(hz:∀i acc σ H,Pv i acc σ H->acc.length<sizeLine)(hi:∀i acc σ H,Pv i acc σ H->i<=n)
  (hs:∀i acc σ H,i<n->Pv i acc σ H->g (.int (lo+i)) σ H λσ2 H3=>ti σ2 H3 λb H4=>if b=true then te σ2 H4 λv H5=>Pv (i+1) (acc++[v]) σ2 H5 else Pv (i+1) acc σ2 H4)
  (he:∀acc σ H,Pv n acc σ H->Q acc H):iK (CK lo n) g ti te σ H Q:=by
 exact jt (J:=CK lo n) (g:=g) (ti:=ti) (te:=te) (Q:=Q) (n:=n) Pv h0 hz hi (λacc σ H w=>My _) (λi acc σ H hlt w=>hlt) (λi x acc σ H H2 hlt w y=>by obtain⟨rfl,rfl⟩:=y;exact hs i acc σ H2 hlt w) he
end
structure dO(P:Nf)(w:Ni)(K:M6)(mg:Nc)(base:Heap)(CX:kT)(k:Nat)(x:Str)(ps:Ng)(sp:Sp):Prop where
 ex:∃(f:Addr) (fd:Nd),aT P w K mg base CX k f fd ps sp/\mg x=some (.ref f)/\PySem.W.keepIn K (.ref f)=true/\bR K fd ps []
structure NB(mg:Nc):Prop where
 len:mg "len"=none
 range:mg "range"=none
 list:mg "list"=none
 tuple:mg "tuple"=none
 isinstance:mg "isinstance"=none
 int:mg "int"=none
 bool:mg "bool"=none
 str:mg "str"=none
 reversed:mg "reversed"=none
 all:mg "all"=none
 enumerate:mg "enumerate"=none
 zip:mg "zip"=none
 sorted:mg "sorted"=none
 set:mg "set"=none
 dict:mg "dict"=none
 min:mg "min"=none
 max:mg "max"=none
 sum:mg "sum"=none
 ValueError:mg "ValueError"=none
section
variable {X:Cx}{CX:kT}{k:Nat}{x:Str}{ps:Ng}{sp:Sp}{E:XK}{p pos:Pos}{e:Expr}{es:Nk}{t:TA}
theorem aJ(C:dO X.prog X.w X.K X.mg X.base CX k x ps sp)(hr:dh k X.A)(hg:Gl X x)(hx:dz CX X E)(ha:PA X (e::es) t)(hdb:autoParam j⁻¹ zz2._auto_1)
  (hst:autoParam (starEach (e::es) X.env=(false,eval e X.env)::starEach es X.env) zz0._auto_1) (hpl:autoParam h⁻¹ zz0._auto_1):PE X (.Call (.Name x p) (e::es) [] pos) (oQ sp [] E t):=by
 obtain⟨f,fd,F,a,b,c⟩:=C.ex;exact Gm F hr hg a b c .nil hx ha hdb hst hpl
end
section
variable {X:Cx}{tg:Expr}
def Ev(_ j:Int):Prop:=0<j/\j<18446744073709551616
theorem bu:bg X (binaryOp .FloorDiv) (rI Ev λi j=>.int (i/j)):=IS λi j _ _ _ _ _ hc q=>by
 have h1:(0:Int)<j:=hc.1;have h2:j<18446744073709551616:=hc.2;refine floordiv_int ⋯ (by rw[Int.fdiv_eq_ediv_of_nonneg i ⋯];exact q) (.inl (PyProof.noPylong_of_log2 ?_));have h64:j.natAbs.log2<64:=(Nat.log2_lt ⋯).mpr ⋯;omega
theorem l8:∀{ys:Ng} {us:Na},bd (ys.map V.str) us->StrsAre us ys
 | [],_,.nil=>.nil
 |y::ys,_,.cons r t=>by
  obtain⟨tk,rfl⟩:=r;exact .cons y tk (l8 t)
def Ak(K:M6):V->List V->Hp->VK->Prop:=λx xs H Q=>∃z p ys,x=.str z/\xs=[.ref p]/\(aO K H p (ys.map V.str)\/aS K H p (ys.map V.str))/\(ys.map (·.length)).sum+ys.length*z.length<=16777216/\Q (.str (Txt.join z ys)) H
theorem Go:JC X "str.join" (Ak X.K):=by
 intro pins s σ H x xs v us Q I rx rv h;obtain⟨z,p,ys,rfl,rfl,hs,e,q⟩:=h;obtain⟨t,rfl⟩:=rx;obtain⟨u,rfl,g⟩:=rv.one;cases g;rcases hs with hs | hs
 ·obtain⟨c,r,b,_⟩:=I.list hs
  exact join_list b.isList (by simpa using l8 r) e λa k=>⟨.str _,H,I.tok k,⟨a,rfl⟩,q⟩
 ·obtain⟨c,r,b,_⟩:=I.tuple hs
  exact join_tuple b (by simpa using l8 r) e λa k=>⟨.str _,H,I.tok k,⟨a,rfl⟩,q⟩
def Iw(x:Str):It:=⟨λi _=>i<x.cps.size,λi H v H'=>H'=H/\∃c,x.cps[i]?=some c/\v=.str ⟨#[c]⟩,λi _=>x.cps.size<=i⟩
theorem EU{K:M6}(x:Str)(t:Tok)(it:Addr):rR P w K tg (Iw x) [it] it (λi h=>h.IsStrIter it (strIterType x) x t i) where
 mem:=by simp
 obj:=λi h g b l=>by
  have e:b=it:=by simpa using l
  subst e;obtain⟨o,e,c,d⟩:=g;exact⟨o,e,λv z=>by rw[d]at z;cases z⟩
 keep:=λi h m g k=>by
  obtain⟨o,e,c,d⟩:=g;exact⟨o,k it (by simp) o e,c,d⟩
 item:=by
  intro X M G O L i j s σ H E I hf g hg;subst M G O;obtain⟨D,C,U,B,y,r⟩:=hf it (by simp);have J:i<x.cps.size:=hg;have q:x.cps[i]?=some x.cps[i]:=Array.getElem?_eq_getElem J;have n:∀m,m.IsStrIter it (strIterType x) x t (i+1)->Heap.SameBut it s.heap m->∃u,(some (Value.str ⟨#[x.cps[i]]⟩ s.toks))=some u /\
    wpAny c⁻¹ X.A (letOwnedTupleGo tg (.ref it) u) (λ_ S=>∃v H',Inv X j σ H' S/\bi v u/\(Iw x).yld i H v H'/\S.heap.IsStrIter it (strIterType x) x t (i+1)/\∀b∈[it],H' b=none) E {s with heap:=m,toks:=s.toks+1}:=λm st' T=>by
   have Y:Inv X j σ H {s with heap:=m,toks:=s.toks+1}:=I.turned (λb o l e=>(T.2 b l).trans e) D C B y r;obtain⟨o,e,c,d⟩:=id st';refine⟨_,rfl,xl (s:={s with heap:=m,toks:=s.toks+1}) e c d ?_ ⟨.str ⟨#[x.cps[i]]⟩,H,Y,⟨_,rfl⟩,⟨rfl,_,q,rfl⟩,st',λb l=>(hf b l).1⟩⟩;unfold strIterType
   split<;>decide
  cases p:x.cps.all (· < 128) with
  |true=>
   have a:strIterType x="str_ascii_iterator":=by unfold strIterType;rw[p];rfl
   rw[a]at g n ⊢;exact wpAny_pyNext_ascii_item g q n
  |false=>
   have a:strIterType x="str_iterator":=by unfold strIterType;rw[p];rfl
   rw[a]at g n ⊢;exact wpAny_pyNext_wide_item g q n
 done:=by
  intro X M G O L i j s σ H E I hf g hg;subst M G O;obtain⟨D,C,U,B,y,r⟩:=hf it (by simp);have J:x.cps.size<=i:=hg;have q:x.cps[i]?=none:=Array.getElem?_eq_none J;cases p:x.cps.all (· < 128) with
  |true=>
   have a:strIterType x="str_ascii_iterator":=by unfold strIterType;rw[p];rfl
   rw[a]at g;exact wpAny_pyNext_ascii_end (I.ok.hd L) g q λm R=>⟨rfl,I.turned (t':=s.toks) (λb o l e=>R b o l e) D C B y r⟩
  |false=>
   have a:strIterType x="str_iterator":=by unfold strIterType;rw[p];rfl
   rw[a]at g;exact wpAny_pyNext_wide_end (I.ok.hd L) g q λm R=>⟨rfl,I.turned (t':=s.toks) (λb o l e=>R b o l e) D C B y r⟩
 self:=λA i s Q E g h=>by
  cases p:x.cps.all (· < 128) with
  |true=>
   have a:strIterType x="str_ascii_iterator":=by unfold strIterType;rw[p];rfl
   rw[a]at g;exact wpAny_pyIter_striter_ascii g h
  |false=>
   have a:strIterType x="str_iterator":=by unfold strIterType;rw[p];rfl
   rw[a]at g;exact wpAny_pyIter_striter_wide g h
def GQ(tl:TE):TI:=λσ H R=>tl σ H λv H1=>∃x,v=.str x/\R (Iw x) H1
theorem GT{tl:TE}(hl:PE X l tl):PI X tg l (GQ tl):=by
 intro a s σ H R I h;refine bV (hl a s σ H _ I h) λv c ⟨x,n,g,j,k⟩=>?_;obtain⟨x,rfl,q⟩:=k;obtain⟨t,rfl⟩:=j;refine wpAny_pyIter_strU ?_;refine⟨c.heap.objs.size,[c.heap.objs.size],_,_,n,rfl,g.kept (t':=c.toks) λb o e=>Ma _ e,EU x t _,⟨_,Mg _ rfl,rfl,rfl⟩,λb m=>?_,q⟩;have e:b=c.heap.objs.size:=by simpa using m
 subst e;exact g.fpOk (My _) (g.hok.fresh (My _))
def Ih(K:M6)(a:Addr)(n:Nat):It:=
 ⟨λi H=>∃xs x,aO K H a xs/\i<n/\xs[n-1-i]?=some x,λi H x H'=>H'=H/\∀xs,aO K H a xs->xs[n-1-i]?=some x,λi _=>i=n⟩
theorem DP{K:M6}(a it:Addr)(n:Nat):rR P w K tg (Ih K a n) [it] it (λi h=>h.IsRevIter it a ((n:Int)-1-(i:Int))) where
 mem:=by simp
 obj:=λi h g b l=>by
  have e:b=it:=by simpa using l
  subst e;obtain⟨o,e,c,d⟩:=g;exact⟨o,e,λv z=>by rw[d]at z;cases z⟩
 keep:=λi h q g k=>g.at λo e=>k it (by simp) o e
 item:=by
  intro X y r B S i j s σ H E I hf g hg;subst y r B;obtain⟨xs,x,O,R,M⟩:=hg;obtain⟨its,U,p,hz⟩:=I.list O;obtain⟨u,hu,Y⟩:=U.get M;obtain⟨L,J,f2,G,D,C⟩:=hf it (by simp);have e:(n:Int)-1-(i:Int)=((n-1-i:Nat):Int):=by omega
  have m:=g;rw[e]at m;refine wpAny_pyNext_rev_item m p.isList (x:=u) (by simpa using hu) λq st' T=>?_;have e2:((n-1-i:Nat):Int)-1=(n:Int)-1-((i+1:Nat):Int):=by omega
  rw[e2]at st';have I1:Inv X j σ H {s with heap:=q }:=I.turned (t':=s.toks) (λb o l e=>(T.2 b l).trans e) L J G D C;obtain⟨o,e,c,d⟩:=id st';exact⟨u,rfl,xl (s:={s with heap:=q }) e c d nofun ⟨x,H,I1,Y,⟨rfl,λys Z=>by rw[I.list_inj Z O];exact M⟩,st',λb l=>(hf b l).1⟩⟩
 done:=by
  intro X y r B S i j s σ H E I hf g hg;subst y r B;obtain⟨L,J,f2,G,D,C⟩:=hf it (by simp);have R:i=n:=hg;subst R;have e:(i:Int)-1-(i:Int) = -1:=by omega
  rw[e]at g;exact wpAny_pyNext_rev_end (I.ok.hd S) g λq eb=>⟨rfl,I.turned (t':=s.toks) (λb o l e=>eb b o l e) L J G D C⟩
 self:=λ_ _ _ _ _ g h=>wpAny_pyIter_revIter g h
def Hq(K:M6)(ta:TA):TI:=λσ H R=>ta σ H λvs H1=>∃a xs,vs=[.ref a]/\aO K H1 a xs/\R (Ih K a xs.length) H1
theorem zD{a:Expr}{ta:TA}{p pos:Pos}(hg:Gl X "reversed")(hm:X.mg "reversed"=none)(ha:PA X [a] ta)(hs:autoParam (starEach [a] X.env=[(false,eval a X.env)]) zz0._auto_1):PI X tg (.Call (.Name "reversed" p) [a] [] pos) (Hq X.K ta):=by
 intro g s σ H R I h;refine Call_ (fG I hg hm boot_reversed (PyProof.Rows.callWith_type1 (bV (ha pos g s σ H _ I h) λus c ⟨vs,v,m,y,B⟩=>?_) hs rfl));obtain⟨l,j,rfl,D,q⟩:=B;obtain⟨u,rfl,x⟩:=y.one;cases x;obtain⟨n,w,C,hz⟩:=m.list D;have k:=w.length;refine call_reversed_list C.isList ?_;have J:n.toArray.size=j.length:=by rw[Mh,k]
 rw[J];have L:Inv X g σ v {c with heap:=c.heap.push (revObj l ((j.length:Int)-1))}:=m.kept (t':=c.toks) λb o e=>Ma _ e;have r:(c.heap.push (revObj l ((j.length:Int)-1))).IsRevIter c.heap.objs.size l ((j.length:Int)-1-((0:Nat):Int)):=⟨_,Mg _ rfl,rfl,by simp[revObj]⟩;refine wpAny_pyIter_revIter r ?_;refine⟨c.heap.objs.size,[c.heap.objs.size],_,_,v,rfl,L,DP l _ j.length,r,λb G=>?_,q⟩;have e:b=c.heap.objs.size:=by simpa using G
 subst e;exact m.fpOk (My _) (m.hok.fresh (My _))
def Hi:V->Option Int->Option Int->Hp->VK->Prop:=λx lo hi H Q=>∃z,x=.str z/\z.length<=sizeLine/\Q (.str (Txt.slice z lo hi)) H
theorem Eg:HU X Hi:=by
 intro b s σ H x v vl vu lo hi sl Q I rx hs pl pu h;obtain⟨z,rfl,c,q⟩:=h;obtain⟨t,rfl⟩:=rx;have a:∀e k,EP X b σ Q (.str (Txt.slice z lo hi) e) {s with toks:=k}:=λe k=>⟨.str _,H,I.tok k,⟨e,rfl⟩,q⟩;refine⟨"str",_,F.slot_str_getitem.lookup,typeIs_str _ _ _,?_⟩;cases pl with
 |none=>
  cases pu with
  |none=>exact wpAny_getItem_str_slice (l:=none) (u:=none) (st:=none) hs rfl (post_val_or_str ⟨MG (Txt.slice_le z _ _) c,a⟩)
  |int j uj=>exact wpAny_getItem_str_slice (l:=none) (u:=some (j,uj)) (st:=none) hs rfl (post_val_or_str ⟨MG (Txt.slice_le z _ _) c,a⟩)
 |int i ui=>
  cases pu with
  |none=>exact wpAny_getItem_str_slice (l:=some (i,ui)) (u:=none) (st:=none) hs rfl (post_val_or_str ⟨MG (Txt.slice_le z _ _) c,a⟩)
  |int j uj=>exact wpAny_getItem_str_slice (l:=some (i,ui)) (u:=some (j,uj)) (st:=none) hs rfl (post_val_or_str ⟨MG (Txt.slice_le z _ _) c,a⟩)
def Js(sep:Str)(ta:TA):TE:=λσ H Q=>ta σ H λvs H1=>∃x,vs=[.str x]/\x.length<=1000/\sep.length<=1000/\Q (.str (Txt.join sep (x.cps.toList.reverse.map λc=>(⟨#[c]⟩:Str)))) H1
theorem rq{e:Expr}{ta:TA}{sep:Str}{j:Nat}{ap p1 p2 cpos:Pos}(hc:X.calm=true)(hg:Gl X "reversed")(hm:X.mg "reversed"=none)(ha:PA X [e] ta)
  (hfew:autoParam (((backTo cpos (starEach [.Call (.Name "reversed" p1) [e] [] p2] X.env)).all (λx=>!x.1)&&(backToKw cpos (keywordEach [] X.env)).all (λx=>x.1.isSome)
   && decide ([Expr.Call (.Name "reversed" p1) [e] [] p2].length+([]:List Keyword).length+(if([]:List Keyword).isEmpty then 0 else 1)<30))=true) zz0._auto_1)
  (hline:autoParam ((ap.endLine==cpos.line)=true) zz0._auto_1) (hs:autoParam (starEach [e] X.env=[(false,eval e X.env)]) zz0._auto_1) :
  PE X (.Call (.Attribute (.Constant (.str sep) j p0) "join" ap) [.Call (.Name "reversed" p1) [e] [] p2] [] cpos) (Js sep ta):=by
 intro c s σ H Q I h;refine wpAny_Call_method_late rfl hfew hline rfl (bV (mr (X:=X) c s σ H (λv p=>v=.str sep/\p=H) I ⟨rfl,rfl⟩) λv r ⟨x,p,y,G,M⟩=>?_);obtain⟨rfl,rfl⟩:=M;obtain⟨t0,rfl⟩:=G;refine⟨"str",_,F.plainAttrs_str,F.slot_str_join,F.type_str_join,typeIs_str _ _ _,(λa z=>nomatch z),?_⟩;refine Calls.callWith_builtin rfl (Calls.evalArgs_plain ?_);show wpAny _ _ (spliced ((false,eval (.Call (.Name "reversed" p1) [e] [] p2) X.env)::[])) _ _ r;refine Calls.spliced_cons ?_;refine Call_ (fG y hg hm boot_reversed (PyProof.Rows.callWith_type1 (bV (ha p2 c r σ p _ y h) λus g ⟨vs,n,m,D,J⟩=>?_) hs rfl));obtain⟨x,rfl,L,l,q⟩:=J;obtain⟨u,rfl,C⟩:=D.one;obtain⟨t,rfl⟩:=C;have hsl:sizeLine=16777216:=q0S;refine nq ⋯ (Calls.spliced_nil ?_);have w:Inv X c σ n {g with heap:=g.heap.push (zo x t ((x.length:Int)-1)),toks:=g.toks+1+1}:=m.kept λb o e=>Ma _ e;have R:=m.fpOk (b:=g.heap.objs.size) (H':=n) (My _) (m.hok.fresh (My _));obtain⟨Z,Y,f2,U,T,S⟩:=R;refine E4 (w.ok.hd hc) (I:=g.heap.objs.size) (x:=x) (t:=t) ⟨_,Mg _ rfl,rfl,rfl⟩ L l λB t' k keep eg ed eo=>?_;obtain⟨h',g',d',k',o'⟩:=B;cases eg;cases ed;cases eo;exact⟨.str _,n,w.turned (t':=k) (λb o O e=>keep b o O e) Z Y U T S,⟨t',rfl⟩,q⟩
def Fr:V->Value
 | .ty n=>.type n
 | .ref a=>.ref a
 |_=>.none
def vi:V->Bool
 | .ty _=>true
 | .ref _=>true
 |_=>false
theorem Fy(r:bi c u)(h:vi c=true):u=Fr c:=by
 cases c with
 |ty n=>exact r
 |ref a=>exact r
 |_=>cases h
def G7(K:M6):List V->Hp->VK->Prop:=λxs H Q=>∃x c t b,xs=[x,c]/\vi c=true/\k9 K H x t/\PySem.W.kitOne K t (Fr c)=some b/\Q (.bl b) H
theorem fZ:gQ X (.builtin "isinstance") (G7 X.K):=by
 intro pins s σ H xs us Q I r h;obtain⟨x,c,t,b,rfl,k,ty,e,q⟩:=h;obtain⟨u,v,rfl,j,g⟩:=r.two;rw[Fy g k];exact Be I j ty e λa=>⟨.bl b,H,I.tok a,rfl,q⟩
theorem Ey(K:M6)(n:String):PySem.W.kitOne K (.type n) (.type n)=some true:=by
 unfold PySem.W.kitOne;rw[q07 (beq_self_eq_true _)]
inductive Dt where
 |non | bl (b:Bool) | int (i:Int) | str (x:Str) | lst (ds:List Dt) | tup (ds:List Dt)
mutual
def nC(K:M6)(H:Hp):Dt->V->Prop
 | .non,v=>v=.non
 | .bl b,v=>v=.bl b
 | .int i,v=>v=.int i
 | .str x,v=>v=.str x
 | .lst ds,v=>∃a xs,v=.ref a/\aO K H a xs/\gY K H ds xs
 | .tup ds,v=>∃a xs,v=.ref a/\aS K H a xs/\gY K H ds xs
def gY(K:M6)(H:Hp):List Dt->List V->Prop
 | [],xs=>xs=[]
 |d::ds,xs=>∃x r,xs=x::r/\nC K H d x/\gY K H ds r
end
mutual
def Dt.dep:Dt->Nat
 | .lst ds=>Dt.deps ds+1
 | .tup ds=>Dt.deps ds+1
 |_=>0
def Dt.deps:List Dt->Nat
 | []=>0
 |d::ds=>max (Dt.dep d) (Dt.deps ds)
end
theorem gY.length{K:M6}:∀{ds:List Dt} {xs:List V},gY K H ds xs->xs.length=ds.length
 | [],_,h=>by unfold gY at h;rw[h];rfl
 |d::ds,xs,h=>by
  unfold gY at h;obtain⟨x,r,rfl,_,h2⟩:=h;simp[gY.length h2]
theorem gY.get{K:M6}:∀{ds:List Dt} {xs:List V} {j:Nat} {x:V},gY K H ds xs->xs[j]?=some x->∃d,ds[j]?=some d/\nC K H d x
 | [],_,_,_,h,e=>by unfold gY at h;rw[h]at e;simp at e
 |d::ds,xs,j,x,h,e=>by
  unfold gY at h;obtain⟨y,r,rfl,h1,h2⟩:=h;cases j with
  |zero=>simp at e;subst e;exact⟨d,rfl,h1⟩
  |succ j=>
   obtain⟨d',e1,e2⟩:=gY.get (j:=j) h2 (by simpa using e);exact⟨d',by simpa using e1,e2⟩
theorem iP:∀{ds:List Dt} {j:Nat} {d:Dt},ds[j]?=some d->d.dep<=Dt.deps ds
 | [],_,_,e=>by simp at e
 |d'::ds,0,d,e=>by simp at e;subst e;unfold Dt.deps;omega
 |d'::ds,j+1,d,e=>by
  have:=iP (ds:=ds) (j:=j) (by simpa using e);unfold Dt.deps;omega
theorem gH(n:Nat):(List.range n).all (λ_=>true)=true:=by simp
theorem vz{pins:M7}{σ:St}(I:Inv X pins σ H s):∀(n:Nat) (d:Dt) (A:Nh) {v u:V} {vv uu:Value},d.dep<=n->A.units+n<cLine->nC X.K H d v->nC X.K H d u->bi v vv->bi u uu->SeqAt.EqAt A s vv uu true:=by
 intro n
 induction n with
 |zero=>
  intro d A v u vv uu T hA h1 h2 l k;cases d with
  |non=>unfold nC at h1 h2;subst h1 h2;have:=gP (A:=A) (s:=s) l k rfl rfl;exact this
  |bl b=>unfold nC at h1 h2;subst h1 h2;have:=gP (A:=A) (s:=s) l k rfl rfl;simpa[nB]using this
  |int i=>unfold nC at h1 h2;subst h1 h2;have:=gP (A:=A) (s:=s) l k rfl rfl;simpa[nB]using this
  |str x=>unfold nC at h1 h2;subst h1 h2;have:=gP (A:=A) (s:=s) l k rfl rfl;simpa[nB]using this
  |lst ds=>unfold Dt.dep at T;omega
  |tup ds=>unfold Dt.dep at T;omega
 |succ n ih=>
  intro d A v u vv uu T hA h1 h2 l k;cases d with
  |non=>unfold nC at h1 h2;subst h1 h2;have:=gP (A:=A) (s:=s) l k rfl rfl;exact this
  |bl b=>unfold nC at h1 h2;subst h1 h2;have:=gP (A:=A) (s:=s) l k rfl rfl;simpa[nB]using this
  |int i=>unfold nC at h1 h2;subst h1 h2;have:=gP (A:=A) (s:=s) l k rfl rfl;simpa[nB]using this
  |str x=>unfold nC at h1 h2;subst h1 h2;have:=gP (A:=A) (s:=s) l k rfl rfl;simpa[nB]using this
  |lst ds=>
   unfold nC at h1 h2;obtain⟨a,L,rfl,ha,o⟩:=h1;obtain⟨b,G,rfl,hb,m⟩:=h2;cases l;cases k
   by_cases p:a=b
   ·subst p;exact SeqAt.EqAt.same _
   ·unfold Dt.dep at T
    obtain⟨g,R,pa,_⟩:=I.list ha;obtain⟨c,O,pb,_⟩:=I.list hb;have l1:=R.length;have l2:=O.length;have l3:=o.length;have l4:=m.length
    have a0:g.toArray.size=c.toArray.size:=by simp;omega
    have q:=SeqAt.RcAt.lists (A:=A) (s:=s) (e:=λ_=>true) pa.isList pb.isList a0 ⋯ λj g1 g2=>by
     have D:j<g.length:=by simpa using g1
     have C:j<c.length:=by simpa using g2
     have M:L[j]?=some L[j]:=L_ ⋯;have J:G[j]?=some G[j]:=L_ ⋯;obtain⟨d,e1,B⟩:=o.get M;obtain⟨d',Z,y⟩:=m.get J;rw[e1]at Z;cases Z
     obtain⟨w1,Y,w⟩:=R.get M;obtain⟨w2,U,r⟩:=O.get J;rw[L_ D]at Y;rw[L_ C]at U;cases Y;cases U
     have S:=iP e1;simp only[MU];exact ih d A.in1 ⋯ (by show A.units+1+n<cLine;omega) B y w r
    rw[gH]at q;exact SeqAt.EqAt.of_refs p q
  |tup ds=>
   unfold nC at h1 h2;obtain⟨a,L,rfl,ha,o⟩:=h1;obtain⟨b,G,rfl,hb,m⟩:=h2;cases l;cases k
   by_cases p:a=b
   ·subst p;exact SeqAt.EqAt.same _
   ·unfold Dt.dep at T
    obtain⟨g,R,pa,_⟩:=I.tuple ha;obtain⟨c,O,pb,_⟩:=I.tuple hb;have l1:=R.length;have l2:=O.length;have l3:=o.length;have l4:=m.length
    have q:=SeqAt.RcAt.tuples (A:=A) (s:=s) (e:=λ_=>true) (show s.heap.IsTuple a g.toArray from pa) (show s.heap.IsTuple b c.toArray from pb) ⋯ λj g1 g2=>by
     have D:j<g.length:=by simpa using g1
     have C:j<c.length:=by simpa using g2
     have M:L[j]?=some L[j]:=L_ ⋯;have J:G[j]?=some G[j]:=L_ ⋯;obtain⟨d,e1,B⟩:=o.get M;obtain⟨d',Z,y⟩:=m.get J;rw[e1]at Z;cases Z
     obtain⟨w1,Y,w⟩:=R.get M;obtain⟨w2,U,r⟩:=O.get J;rw[L_ D]at Y;rw[L_ C]at U;cases Y;cases U
     have S:=iP e1;simp only[MU];exact ih d A.in1 ⋯ (by show A.units+1+n<cLine;omega) B y w r
    have e0:((List.range (min g.toArray.size c.toArray.size)).all (λ_=>true)&&g.toArray.size==c.toArray.size)=true:=by
     rw[gH,Bool.true_and];simp;omega
    rw[e0]at q;exact SeqAt.EqAt.of_refs p q
def HZ(K:M6)(neg:Bool):R2:=λx y H Q=>
 (∃ds,Dt.deps ds<=40/\((nC K H (.lst ds) x/\nC K H (.lst ds) y)\/(nC K H (.tup ds) x/\nC K H (.tup ds) y))/\Q (.bl (!neg)) H) \/
 (∃a b xs ys,x=.ref a/\y=.ref b/\aO K H a xs/\aO K H b ys/\xs.length≠ys.length/\Q (.bl neg) H)
theorem D1(hu:X.A.units+64<cLine):bg X (compareOp .NotEq) (HZ X.K true):=by
 intro r s σ H x y v u Q I rx ry h;rcases h with⟨ds,hd,h,q⟩ | ⟨a,b,p,o,rfl,rfl,D,C,hne,q⟩
 ·have G:EP X r σ Q (.bool false) s:=⟨.bl false,H,I,rfl,q⟩
  have item:∀{p o:List V} {g c:Na},gY X.K H ds p->gY X.K H ds o->bd p g->bd o c->∀j (h1:j<g.toArray.size) (h2:j<c.toArray.size),SeqAt.EqAt X.A.in1 s g.toArray[j] c.toArray[j] true:=fun{p o g c} l k n m j g1 g2=>by
   have S:=n.length;have R:=m.length;have l3:=l.length;have l4:=k.length
   have U:j<g.length:=by simpa using g1
   have T:j<c.length:=by simpa using g2
   have Z:p[j]?=some p[j]:=L_ ⋯;have Y:o[j]?=some o[j]:=L_ ⋯;obtain⟨d,e1,O⟩:=l.get Z;obtain⟨d',e2,M⟩:=k.get Y;rw[e1]at e2;cases e2
   obtain⟨w1,f1,L⟩:=n.get Z;obtain⟨w2,f2,J⟩:=m.get Y;rw[L_ U]at f1;rw[L_ T]at f2;cases f1;cases f2
   have hdep:=iP e1;simp only[MU];exact vz I 40 d X.A.in1 ⋯ (by show X.A.units+1+40<cLine;omega) O M L J
  rcases h with⟨h1,h2⟩ | ⟨h1,h2⟩
  ·unfold nC at h1 h2
   obtain⟨a,p,rfl,D,l⟩:=h1;obtain⟨b,o,rfl,C,k⟩:=h2;cases rx;cases ry
   obtain⟨g,n,B,_⟩:=I.list D;obtain⟨c,m,w,_⟩:=I.list C;have S:=n.length;have R:=m.length;have l3:=l.length;have l4:=k.length
   have q:=SeqAt.RcNeAt.lists (A:=X.A) (s:=s) (e:=λ_=>true) B.isList w.isList (by simp;omega) ⋯ (item l k n m);rw[gH]at q;exact q _ _ _ _ G
  ·unfold nC at h1 h2
   obtain⟨a,p,rfl,D,l⟩:=h1;obtain⟨b,o,rfl,C,k⟩:=h2;cases rx;cases ry
   obtain⟨g,n,B,_⟩:=I.tuple D;obtain⟨c,m,w,_⟩:=I.tuple C;have S:=n.length;have R:=m.length;have l3:=l.length;have l4:=k.length
   have q:=SeqAt.RcNeAt.tuples (A:=X.A) (s:=s) (e:=λ_=>true) (show s.heap.IsTuple a g.toArray from B) (show s.heap.IsTuple b c.toArray from w) ⋯ (item l k n m);have e0:((List.range (min g.toArray.size c.toArray.size)).all (λ_=>true)&&g.toArray.size==c.toArray.size)=true:=by
    rw[gH,Bool.true_and];simp;omega
   rw[e0]at q;exact q _ _ _ _ G
 ·cases rx;cases ry
  obtain⟨g,n,B,_⟩:=I.list D;obtain⟨c,m,w,_⟩:=I.list C;have S:=n.length;have R:=m.length
  exact SeqAt.RcNeAt.lists_lengths B.isList w.isList (by simp;omega) ⋯ _ _ _ _ ⟨.bl true,H,I,rfl,q⟩
end
end L2
namespace bJ
abbrev JF:=List Nat
abbrev bJ:=List JF
def fJ(p:bJ)(r c:Nat):Prop:=p.length=r/\∀x∈p,x.length=c
def mirror(p:bJ):bJ:=p.map List.reverse
def col(p:bJ)(i:Nat):JF:=p.reverse.map λx=>x.getD i 0
def gq(p:bJ):bJ:=(List.range (p.headD []).length).map (col p)
def bG:Nat->bJ->bJ
 |0,p=>p
 |n+1,p=>bG n (gq p)
def turned(p:bJ)(t:Nat):bJ:=bG (t%4) (if 4<=t then mirror p else p)
theorem D_{i:Nat}(h:fJ p r c)(hi:i<r):(p.getD i []).length=c:=by
 have a:i<p.length:=by rw[h.1];exact hi
 rw[q0A,L_ a];exact h.2 _ (Mi a)
theorem bC(h:fJ p r c)(hr:0<r):(p.headD []).length=c:=by
 have:=D_ h hr;cases p with
 |nil=>have:=h.1;simp at this;omega
 |cons x p=>simpa using this
theorem h_(h:fJ p r c):fJ (mirror p) r c:=by
 refine⟨by simp[mirror,h.1],λx b=>?_⟩;obtain⟨y,a,rfl⟩:=MR.mp b;rw[Ms];exact h.2 y a
theorem uB(h:fJ p r c)(hr:0<r):fJ (gq p) c r:=by
 refine⟨by unfold gq;rw[Mb,q0H,bC h hr],λx a=>?_⟩;obtain⟨i,_,rfl⟩:=MR.mp a;simp[col,h.1]
theorem dc:∀(n:Nat) {p:bJ} {r c:Nat},fJ p r c->0<r->0<c->fJ (bG n p) (if n%2=0 then r else c) (if n%2=0 then c else r)
 |0,_,_,_,h,_,_=>h
 |n+1,p,r,c,h,hr,hc=>by
  have:=dc n (uB h hr) hc hr;show fJ (bG n (gq p)) _ _
  by_cases e:n%2=0
  ·rw[q07 e,q07 e]at this
   rw[q06 ⋯,q06 ⋯];exact this
  ·rw[q06 e,q06 e]at this
   rw[q07 ⋯,q07 ⋯];exact this
theorem xD(h:fJ p r c)(hr:0<r)(hc:0<c)(t:Nat):fJ (turned p t) (if t%2=0 then r else c) (if t%2=0 then c else r):=by
 unfold turned;have e:t%4%2=t%2:=by omega
 rw[<- e]
 split
 ·exact dc _ (h_ h) hr hc
 ·exact dc _ h hr hc
theorem mI(a b:Nat)(p:bJ):bG a (bG b p)=bG (b+a) p:=by
 induction b generalizing p with
 |zero=>rw[Nat.zero_add];rfl
 |succ b ih=>show bG a (bG b (gq p))=_;rw[ih,Nat.add_right_comm];rfl
def after(t u:Nat):Nat:=if u<4 then t/4*4+(t+u)%4 else(1-t/4)*4+(u+8-t)%4
def uZ(t:Nat):Nat:=if t<4 then(4-t)%4 else t
end bJ
namespace QL
open PySem L2 bJ
def tx(r:M8):Str:=⟨r.toArray⟩
def aH(p:bJ):List V:=p.map λr=>V.str (tx r)
theorem av(r:M8):(tx r).length=r.length:=by show r.toArray.size=r.length;simp
theorem dY(r:M8):(tx r).cps.toList=r:=by show r.toArray.toList=r;simp
theorem ar(p:bJ):(aH p).length=p.length:=by unfold aH;simp
theorem bc{p:bJ}{i:Nat}(h:i<p.length):(aH p)[i]?=some (V.str (tx p[i])):=by unfold aH;rw[Md,L_ h];rfl
theorem eZ(p:bJ)(r:M8):aH (p++[r])=aH p++[V.str (tx r)]:=by unfold aH;simp
theorem E_:∀(ys:List (List Nat)),Txt.join (Str.ofString "") (ys.map tx)=tx ys.flatten
 | []=>rfl
 |y::ys=>by
  have key:∀(zs:List (List Nat)) (a:M8),(zs.map tx).foldl (λacc (p:Str)=>acc++(Str.ofString "").cps++p.cps) a.toArray=(a++zs.flatten).toArray:=by
   intro zs
   induction zs with
   |nil=>intro a;simp
   |cons z zs ih=>
    intro a;rw[MF,List.foldl_cons];have e:a.toArray++(Str.ofString "").cps++(tx z).cps=(a++z).toArray:=by
     have b:(Str.ofString "").cps=#[]:=rfl;rw[b];show a.toArray ++ #[]++z.toArray=_;simp
    rw[e,ih];simp
  show(⟨(ys.map tx).foldl (λacc (p:Str)=>acc++(Str.ofString "").cps++p.cps) (tx y).cps⟩:Str)=_;show(⟨(ys.map tx).foldl (λacc (p:Str)=>acc++(Str.ofString "").cps++p.cps) y.toArray⟩:Str)=_;rw[key]
  rfl
theorem iT(r:M8):Txt.join (Str.ofString "") (r.map λc=>(⟨#[c]⟩:Str))=tx r:=by
 have e:(r.map λc=>(⟨#[c]⟩:Str))=(r.map λc=>[c]).map tx:=by rw[Mp];rfl
 rw[e,E_]
 congr 1
 clear e
 induction r with
 |nil=>rfl
 |cons c r ih=>simp[ih]
def ua(p:bJ):Prop:=p.length<=64/\∀r∈p,r.length<=64
theorem ua.of(h:fJ p r c)(hr:r<=64)(hc:c<=64):ua p:=⟨by rw[h.1];exact hr,λx hx=>by rw[h.2 x hx];exact hc⟩
theorem bf{n:Nat}(h:n<=1000000):n<sizeLine:=by have:=q0S;omega
theorem am{n:Nat}(h:n<=1000000):n<=sizeLine:=by have:=q0S;omega
theorem ae{H:Hp}(h:H l=none):aD H (aA H l o):=λb u e=>by rw[ao (aG e h)];exact e
theorem eG(s:aD H0 H)(h:H0 l=none):aD H0 (aA H l o):=λb u e=>by rw[ao (aG e h)];exact s b u e
theorem dS{i:Nat}(h:fJ p r c)(hi:i<r):∃hl:i<p.length,(p[i]).length=c:=⟨by rw[h.1];exact hi,h.2 _ (Mi _)⟩
def cN(H:Hp)(p:bJ)(Q:VK):Prop:=∀(l:Addr) (H':Hp),H l=none->H' l=some (.lst (aH p))->aD H H'->Q (.ref l) H'
theorem uO{α:Type}{xs:List α}{i:Int}(h0:0<=i)(h1:i<xs.length):∃v,v∈xs/\gj xs i=some v:=by
 have hb:i.toNat<xs.length:=by omega
 obtain⟨j,a⟩:∃j:Nat,i=(j:Int):=⟨i.toNat,⋯⟩;subst a;exact⟨xs[j]'⋯,Mi _,a_ (L_ ⋯)⟩
theorem v_(K:M6):PySem.W.kitOne K (.type "int") (.type "bool")=some false:=by kernel_rfl
end QL
namespace L2
open PySem PySem.Spec PyProof.Rows
section
variable {X:Cx}
theorem aV:gQ X (.builtin "len") (λxs H Q=>∃p ys,xs=[.ref p]/\aO X.K H p ys/\Q (.int ys.length) H):=λpins s σ H xs us Q I r ⟨p,ys,e,h,q⟩=>mW pins s σ H xs us Q I r ⟨p,ys,e,.inl h,q⟩
theorem BX:gQ X (.builtin "len") (λxs H Q=>∃p ys,xs=[.ref p]/\aS X.K H p ys/\Q (.int ys.length) H):=λpins s σ H xs us Q I r ⟨p,ys,e,h,q⟩=>mW pins s σ H xs us Q I r ⟨p,ys,e,.inr h,q⟩
theorem xh{K:M6}{g:TG}{ti:TT}{te:TE}{σ:St}{H:Hp}{Q:List V->Hp->Prop}{xs:List V}(Pv:Nat->List V->St->Hp->Prop)(h0:Pv 0 [] σ H)(hz:∀i acc σ H,Pv i acc σ H->acc.length<sizeLine)(hi:∀i acc σ H,Pv i acc σ H->i<=xs.length)
  (hl:∀i acc σ H,Pv i acc σ H->aO K H a xs)
  (hs:∀i x acc σ H,xs.reverse[i]?=some x->Pv i acc σ H->g x σ H λσ2 H3=>ti σ2 H3 λb H4=>if b=true then te σ2 H4 λv H5=>Pv (i+1) (acc++[v]) σ2 H5 else Pv (i+1) acc σ2 H4)
  (he:∀acc σ H,Pv xs.length acc σ H->Q acc H):iK (Ih K a xs.length) g ti te σ H Q:=by
 have c:∀{i:Nat} {x:V},i<xs.length->xs[xs.length-1-i]?=some x->xs.reverse[i]?=some x:=fun{i x} hi e=>by rw[List.getElem?_reverse hi];exact e
 exact jt (J:=Ih K a xs.length) (g:=g) (ti:=ti) (te:=te) (Q:=Q) (n:=xs.length) Pv h0 hz hi (λacc σ H w=>rfl)
  (λi acc σ H hlt w=>⟨xs,xs[xs.length-1-i]'⋯,hl _ _ _ _ w,hlt,L_ ⋯⟩) (λi x acc σ H H2 hlt w y=>by obtain⟨rfl,j⟩:=y;exact hs i x acc σ H2 (c hlt (j xs (hl _ _ _ _ w))) w) he
theorem Fu(i j:Int):(BW (.int i) (.int j)=true)=True:=eq_true rfl
theorem F9(i j:Bool):(BW (.bl i) (.bl j)=true)=True:=eq_true rfl
theorem o6{ta:TE}(ha:PE X a ta)(he:∀whole,isTrue a X.env whole=(do let v <- whole;standAt a.pos;holding [v] (truthy v))):PT X a (xH ta):=by
 intro b s σ H Q I h;rw[he];refine q04 (bV (ha b s σ H _ I h) λv s1 ⟨x,j,g,c,k,e,q⟩=>?_);subst e;cases c;exact q04 (wpAny_standAt (q0U (wpAny_truthy_bool ⟨j,g,q⟩)))
def u5(J:It)(g:TG)(tb:TS)(D:iO)(σ:St)(H:Hp):Prop:=∃W:Nat->Nat->St->Hp->Prop,(∃m,W 0 m σ H)/\∀i m σ H,W i m σ H ->
 (J.stop i H/\D.nx σ H)\/(J.go i H/\∃N:St->Hp->Prop,(∀σ' H',N σ' H'->∃m',m'<m/\W (i+1) m' σ' H')/\∀x H',J.yld i H x H'->g x σ H' λσ2 H2=>tb {D with nx:=N,ct:=N,bk:=D.nx} σ2 H2)
def CW(wi:TI)(g:TG)(tb:TS):TS:=λD σ H=>wi σ H λJ H1=>u5 J g tb D σ H1
theorem bD{tg iter:Expr}{body:List Stmt}{wi:TI}{pos:Pos}(hp:PassesOwn c⁻¹ X.A X.env X.xe)(hc:X.calm=true)(hi:PI X tg iter wi)(hg:PG X tg g)(hb:wz X body tb)
  (hs:autoParam (∀x,foldedSetIterable iter X.env x=pure x) zz4._auto_1):PS X (.For tg iter body [] pos) (CW wi g tb):=HA hp hc hi hg hb hs
section
variable {K:M6}{g:TG}{tb:TS}{D:iO}{σ:St}{H:Hp}
theorem cM{xs:List V}(Pv:Nat->St->Hp->Prop)(h0:Pv 0 σ H)(hl:∀i σ H,i<=xs.length->Pv i σ H->aO K H a xs)
  (hs:∀i x σ H,xs[i]?=some x->Pv i σ H->g x σ H λσ2 H2=>tb {D with nx:=Pv (i+1),ct:=Pv (i+1),bk:=D.nx} σ2 H2) (hd:∀σ H,Pv xs.length σ H->D.nx σ H):u5 (Fc K a) g tb D σ H:=Ea Pv h0 hl hs hd
theorem wO{xs:List V}(Pv:Nat->St->Hp->Prop)(h0:Pv 0 σ H)(hl:∀i σ H,i<=xs.length->Pv i σ H->aS K H a xs)
  (hs:∀i x σ H,xs[i]?=some x->Pv i σ H->g x σ H λσ2 H2=>tb {D with nx:=Pv (i+1),ct:=Pv (i+1),bk:=D.nx} σ2 H2) (hd:∀σ H,Pv xs.length σ H->D.nx σ H):u5 (Gz K a) g tb D σ H:=Fg Pv h0 hl hs hd
theorem dw{lo:Int}{n:Nat}(Pv:Nat->St->Hp->Prop)(h0:Pv 0 σ H)
  (hs:∀i σ H,i<n->Pv i σ H->g (.int (lo+i)) σ H λσ2 H2=>tb {D with nx:=Pv (i+1),ct:=Pv (i+1),bk:=D.nx} σ2 H2) (hd:∀σ H,Pv n σ H->D.nx σ H):u5 (CK lo n) g tb D σ H:=AK Pv h0 hs hd
end
end
theorem aR:bootBuiltins "len"=some (.builtin "len"):=by decide +kernel
theorem g_:bootBuiltins "list"=some (.type "list"):=by decide +kernel
theorem Ee:bootBuiltins "tuple"=some (.type "tuple"):=by decide +kernel
theorem Ef:bootBuiltins "int"=some (.type "int"):=by decide +kernel
theorem FP:bootBuiltins "bool"=some (.type "bool"):=by decide +kernel
theorem iH:bootBuiltins "isinstance"=some (.builtin "isinstance"):=by decide +kernel
theorem Hg:bootBuiltins "all"=some (.builtin "all"):=by decide +kernel
end L2
namespace L2
open PySem PySem.Spec PyProof.Rows
section
variable {X:Cx}{a b c d:Expr}{ta tb tc td:TE}{pos:Pos}
def G2(K:M6):List V->Hp->VK->Prop:=λxs H Q=>∃(p:Addr) (bs:List Bool),xs=[.ref p]/\aO K H p (bs.map V.bl)/\Q (.bl (bs.all id)) H
theorem Av:∀{bs:List Bool} {us:Na} {i:Nat} {u:Value},bd (bs.map V.bl) us->us[i]?=some u->∃k,bs[i]?=some k/\u=.bool k
 | [],_,_,_,.nil,e=>by simp at e
 |k::bs,_,0,u,.cons r _,e=>by simp at e;subst e;exact⟨k,rfl,r⟩
 |k::bs,_,i+1,u,.cons _ t,e=>by
  obtain⟨k',h1,h2⟩:=Av (i:=i) t (by simpa using e);exact⟨k',by simpa using h1,h2⟩
theorem Cf(bs:List Bool):((List.range bs.length).all λi=>(bs[i]?).getD true)=bs.all id:=by
 rw[Bool.eq_iff_iff,MS,MS]
 constructor
 ·intro h x c
  obtain⟨i,b,e⟩:=List.getElem_of_mem c;have q:=h i (List.mem_range.mpr b);rw[L_ b,q0J,e]at q;exact q
 ·intro h i b
  have a:=List.mem_range.mp b;rw[L_ a,q0J];exact h _ (Mi a)
theorem Eu(hc:X.calm=true):gQ X (.builtin "all") (G2 X.K):=by
 intro pins s σ H xs us Q I r h;obtain⟨p,bs,rfl,y,q⟩:=h;obtain⟨u,rfl,x⟩:=r.one;cases x;obtain⟨a,n,g,_⟩:=I.list y;have j:p<s.heap.objs.size:=by obtain⟨_,e,_⟩:=g.isList;exact MB e
 have c:a.length=bs.length:=by rw[<- n.length,Mb]
 refine call_all_walk (wpAny_pyIter_list g.isList ?_);refine⟨s.heap.objs.size,[s.heap.objs.size,p],[s.heap.objs.size],a.toArray.size,_,_,λi=>(bs[i]?).getD true,rfl,Walks.list (A:=X.A.in1) (I.ok.hd hc) _ p (Mu j) a.toArray,
  ⟨⟨_,Mg _ rfl,rfl,rfl⟩,g.isList.push _⟩,λi v s' Q' E' D l=>?_,λh' w C=>?_⟩
 ·obtain⟨k,e,rfl⟩:=Av (i:=i) n (by simpa using D)
  dsimp only at l;rw[e,q0J]at l;exact wpAny_truthy_bool l
 ·have e:((List.range a.toArray.size).all λi=>(bs[i]?).getD true)=bs.all id:=by rw[Mh,c];exact Cf bs
  rw[e];exact⟨.bl _,H,I.kept (t':=w) λb o m=>C b o (λB=>by rw[Mc.mp B]at m;exact MH _ (MB m)) (Ma _ m),rfl,q⟩
end
section
variable {K:M6}{g:TG}{ti:TT}{te:TE}{σ:St}{H:Hp}{Q:List V->Hp->Prop}
theorem wH{xs:List V}(Pv:Nat->List V->St->Hp->Prop)(h0:Pv 0 [] σ H)(hz:∀i acc σ H,Pv i acc σ H->acc.length<sizeLine)(hi:∀i acc σ H,Pv i acc σ H->i<=xs.length)
  (hl:∀i acc σ H,Pv i acc σ H->aS K H a xs)
  (hs:∀i x acc σ H,xs[i]?=some x->Pv i acc σ H->g x σ H λσ2 H3=>ti σ2 H3 λb H4=>if b=true then te σ2 H4 λv H5=>Pv (i+1) (acc++[v]) σ2 H5 else Pv (i+1) acc σ2 H4)
  (he:∀acc σ H,Pv xs.length acc σ H->Q acc H):iK (Gz K a) g ti te σ H Q:=by
 exact jt (J:=Gz K a) (g:=g) (ti:=ti) (te:=te) (Q:=Q) (n:=xs.length) Pv h0 hz hi (λacc σ H w=>⟨xs,hl _ _ _ _ w,My _⟩)
  (λi acc σ H hlt w=>⟨xs,xs[i],hl _ _ _ _ w,L_ hlt⟩) (λi x acc σ H H2 hlt w y=>by obtain⟨rfl,c⟩:=y;exact hs i x acc σ H2 (c xs (hl _ _ _ _ w)) w) he
end
end L2
namespace QL
open PySem L2 bJ PySem.Builtin PySem.Builtin.Str
theorem zP(row:M8)(i k:Nat)(h:i+k<=row.length):((List.range k).map λm=>i+m).filterMap (λj=>row[j]?)=(row.drop i).take k:=by
 rw[List.filterMap_map]
 induction k with
 |zero=>simp
 |succ k ih=>
  rw[q0K,List.filterMap_append,ih ⋯,q0E,List.getElem?_drop];have e:i+k<row.length:=by omega
  simp[L_ e]
def E6(n:Nat)(d:Int):Option Int->Int
 |none=>d
 |some i=>max 0 (min (if i<0 then i+(n:Int) else i) (n:Int))
theorem xM(n d:Nat)(v:Option Int):E6 n (d:Int) v=((HT.sIx n d v:Nat):Int):=by
 cases v with
 |none=>rfl
 |some v=>
  show max 0 (min (if v<0 then v+(n:Int) else v) (n:Int))=(((if v<0 then(v+(n:Int)).toNat else min v.toNat n:Nat)):Int)
  by_cases a:v<0
  ·rw[q07 a,q07 a,Int.max_def,Int.min_def]
   split<;>split at * <;> omega
  ·rw[q06 a,q06 a,Int.max_def,Int.min_def]
   split<;>split at * <;> omega
theorem yT(lo hi:Option Int)(n:Nat):strSliceIndices lo hi 1 n=sliceRange (E6 n ((0:Nat):Int) lo) (E6 n (n:Int) hi) 1:=by cases lo<;>cases hi<;>rfl
theorem tI(row:M8)(lo hi:Option Int):Txt.slice (tx row) lo hi=tx ((row.drop (HT.sIx row.length 0 lo)).take (HT.sIx row.length row.length hi-HT.sIx row.length 0 lo)):=by
 have hl:=HT.sIx_le row.length 0 (Mz _) lo;have hh:=HT.sIx_le row.length row.length (My _) hi;have key:strSliceIndices lo hi 1 (tx row).length=(List.range (HT.sIx row.length row.length hi-HT.sIx row.length 0 lo)).map λm=>HT.sIx row.length 0 lo+m:=by
  rw[av,yT,xM,xM];generalize HT.sIx row.length 0 lo=a;generalize HT.sIx row.length row.length hi=b;unfold sliceRange;have en:(if(1:Int)>0 then(if(a:Int)<(b:Int) then((b:Int)-(a:Int)+1-1)/1 else 0) else(if(a:Int)>(b:Int) then((a:Int)-(b:Int)-1-1)/(-1) else 0)).toNat=b-a:=by
   rw[q07 nofun]
   split<;>omega
  show(List.range (if(1:Int)>0 then(if(a:Int)<(b:Int) then((b:Int)-(a:Int)+1-1)/1 else 0) else(if(a:Int)>(b:Int) then((a:Int)-(b:Int)-1-1)/(-1) else 0)).toNat).map (fun(k:Nat)=>((a:Int)+1*(k:Int)).toNat)=_;rw[en];refine q0I λm _=>?_;omega
 unfold Txt.slice;rw[key];generalize HT.sIx row.length 0 lo=a at hl ⊢;generalize HT.sIx row.length row.length hi=b at hh ⊢
 by_cases hab:a+(b-a)<=row.length
 ·have e:(((List.range (b-a)).map λm=>a+m).filterMap λj=>(tx row).cps[j]?)=(row.drop a).take (b-a):=by
   rw[<- zP row a (b-a) hab]
   congr 1
   funext j
   show row.toArray[j]?=row[j]?;simp
  rw[e]
  split
  ·rename_i hw
   simp at hw;rw[av]at hw;have ha0:a=0:=by omega
   have hb0:b-a=row.length:=by omega
   rw[ha0,M4];rw[ha0]at hb0;rw[hb0,MM]
  ·rfl
 ·exact q0O hab ⋯
end QL
namespace L2
open PySem PySem.Spec PyProof.Rows
section
variable {X:Cx}{K:M6}{tg:Expr}
theorem Aj(hK:X.K=K):G1 X (Ch K):=hK▸Dz
theorem An(hK:X.K=K):HU X (Gk K):=hK▸oM
end
end L2
namespace PySem
open Sem (wp)
def TrD(cp:Value->Prop)(h base:Heap)(e:Addr)(cls:Value)(od:Nj)(fl:Value):Prop:=
 ∃oe vs T oT ts,h.get? e=some oe/\oe.cls=cls/\oe.dict=od/\oe.data=.fields vs/\vs[1]?=some (.ref T)/\base.get? T=none/\T≠e/\h.get? T=some oT/\oT.data=.fields ts/\ts[3]?=some fl/\∃cx,vs[2]?=some cx/\cp cx
structure ng(cp:Value->Prop)(base:Heap)(l:List Env)(e:Addr)(cls:Value)(od:Nj)(fl:Value)(h:Heap):Prop where
 st:base.StaysIn h
 new:base.get? e=none
 ff:h.FunFrames base l
 tr:TrD cp h base e cls od fl
theorem rG(o:Obj)(f:Array Value->Array Value):(Obj.mapFields f o).dict=o.dict:=by unfold Obj.mapFields;split<;>rfl
section
variable {cp:Value->Prop}{M:Model}{A:Nh}{E:M5}{s:M9}{base:Heap}{env:Env}{outer:List Env}{L e:Addr}{Q:Unit->Shared->Prop}
theorem Ac{cls fl:Value}{od:Nj}(x:ng cp base l e cls od fl s.heap)(h:∀h',ng cp base l e cls od .none h'->s.heap.UpToSlots h'->Q () {s with heap:=h' }):wpAny M A (setFlight (.ref e) none) Q E s:=by
 obtain⟨B,vs,T,oT,v,w,D,C,y,h1,n,p,u,j,G,r⟩:=x.tr;have m:3<v.size:=(Array.getElem?_eq_some_iff.mp G).1;have g:∀b,b≠T->(s.heap.update T (Obj.mapFields (·.setIfInBounds 3 Value.none))).get? b=s.heap.get? b:=λb a=>Mf _ _ (Ne.symm a);have k:∀b o,s.heap.get? b=some o->(∀vs,o.data≠.fields vs)->b≠T:=λb o a c q=>by rw[q,u]at a;injection a with a;subst a;exact c v j
 unfold setFlight;refine q04 (wpAny_field w y h1 ?_);rw[q07 (show(Value.ref T != Value.none)=true from by simp)];refine wpAny_setField u j m (h _ ⟨λb o a=>(g b λq=>by rw[q,n]at a;cases a).trans (x.st b o a),x.new,x.ff.of_keeps λb o a c=>⟨o,(g b (k b o a c)).trans a,rfl⟩,?_⟩ λb o a c=>⟨o.slots,(g b (k b o a c)).trans a⟩);exact⟨B,vs,T,_,_,(g e (Ne.symm p)).trans w,D,C,y,h1,n,p,Ml _ u (Obj.isFreed_of_fields (Obj.data_mapFields j _)),Obj.data_mapFields j _,by simp[m],r⟩
theorem DV{oe:Obj}{head:Value}{hadNext:Bool}(hfr:A.frames=some (env::outer))(hl:s.heap.FunFrames base (env::outer))(hf:env.frame=some L)
  (he:s.heap.get? e=some oe) (hkb:base.StaysIn s.heap) (hen:base.get? e=none) (hd:oe.data=.fields vs) (hsz:1<vs.size) (hcx:∃cx,vs[2]?=some cx/\cp cx)
  (h:∀h',ng cp base (env::outer) e oe.cls oe.dict (rawInt L) h'->s.heap.UpToSlots h'->Q () {s with heap:=h' }) :
  wpAny M A (do let a <- frameOf env;let pl <- entryPlaceOf L hadNext;let b <- EntryCells.newEntry head a .none (rawInt L) .none pl;setField (.ref e) 1 b) Q E s:=by
 have u:e∉(env::outer).filterMap (·.frame):=λC=>by
  obtain⟨_,o,y,g⟩:=hl.mem C;rw[he]at y;injection y with y;subst y;exact g vs hd
 refine q04 (wpAny_frameOf_fun hfr hl hf λj k=>?_);refine q04 (wpAny_entryPlaceOf λpl n=>?_);unfold EntryCells.newEntry newFields;refine q04 (wpAny_newObj_type ?_ (n.sizeOk5 _ _ _ _ _));have r:j.get? e=some oe:=(k.2.1 e u).trans he;have m:base.StaysIn j:=λb o c=>(k.2.1 b λC=>by rw[(hl.mem C).1]at c;cases c).trans (hkb b o c);generalize x:({cls:=.type "traceback",dict:=none,data:=.fields ([head,.ref L,.none,rawInt L,.none]++(if pl.isEmpty then List.replicate 6 Value.none else pl)).toArray}:Obj)=To;have G:To.data=.fields ([head,.ref L,.none,rawInt L,.none]++(if pl.isEmpty then List.replicate 6 Value.none else pl)).toArray:=by rw[<- x]
 have p:=Ma (h:=j) To r;have w:j.objs.size≠e:=Nat.ne_of_gt (MB r);have keep:∀b o,b≠e->j.get? b=some o->((j.push To).update e (Obj.mapFields (·.setIfInBounds 1 (Value.ref j.objs.size)))).get? b=some o:=λb o D c=>by
  rw[Mf _ _ (Ne.symm D)];exact Ma _ c
 have l:∀b o,s.heap.get? b=some o->(∀vs,o.data≠.fields vs)->b≠e:=λb o c g q=>by
  rw[q,he]at c
  injection c with c
  subst c;exact g vs hd
 refine wpAny_setField p hd hsz (h _ ?_ ?_)
 ·have v:=Obj.data_mapFields hd (·.setIfInBounds 1 (Value.ref j.objs.size))
  refine⟨λb o c=>keep b o (λq=>by rw[q,hen]at c;cases c) (m b o c),hen,hl.of_keeps λb o c g=>?_,?_⟩
  ·obtain⟨I,B⟩:=k.2.2 b o c
   exact⟨_,keep b _ (l b o c g) B,rfl⟩
  ·refine⟨_,_,j.objs.size,To,_,Ml _ p (Obj.isFreed_of_fields v),Obj.cls_mapFields _ _,rG _ _,v,by simp[hsz],m.fresh,w,?_,G,?_,?_⟩
   ·rw[Mf _ _ (Ne.symm w)]
    refine Mg _ ?_;rw[<- x];rfl
   ·first | (simp;done) | (rcases n with rfl | ⟨_,_,_,_,_,_,_,rfl⟩<;>simp)
   ·obtain⟨cx,h2,J⟩:=hcx
    exact⟨cx,by rw[Array.getElem?_setIfInBounds_ne nofun];exact h2,J⟩
 ·intro b o c g
  obtain⟨I,B⟩:=k.2.2 b o c;exact⟨I,keep b _ (l b o c g) B⟩
theorem IG{cls:Value}{od:Nj}(hfr:A.frames=some (env::outer))(hf:env.frame=some L)(x:ng cp base (env::outer) e cls od .none s.heap)
  (h:∀h',ng cp base (env::outer) e cls od (rawInt L) h'->s.heap.UpToSlots h'->Q () {s with heap:=h' }):wpAny M A (noteFrame (.ref e) env) Q E s:=by
 obtain⟨oe,vs,T,oT,w,r,C,B,u,h1,l,n,p,k,v,m⟩:=x.tr;subst C B;unfold noteFrame;simp only[hf];refine q04 (wpAny_field r u h1 ?_);rw[q07 (show(Value.ref T != Value.none)=true from by simp)];refine q04 (wpAny_field p k v ?_);rw[q06 (show ¬ ((Value.none==rawInt L)=true) from by simp[rawInt])];refine q04 (wpAny_setField p k (Array.getElem?_eq_some_iff.mp v).1 ?_);have g:∀b,b≠T->(s.heap.update T (Obj.mapFields (·.setIfInBounds 3 Value.none))).get? b=s.heap.get? b:=λb a=>Mf _ _ (Ne.symm a);have j:∀b o,s.heap.get? b=some o->(∀vs,o.data≠.fields vs)->b≠T:=λb o a c q=>by rw[q,p]at a;injection a with a;subst a;exact c w k
 refine DV hfr (x.ff.of_keeps λb o a c=>⟨o,(g b (j b o a c)).trans a,rfl⟩) hf ((g e (Ne.symm n)).trans r) (λb o a=>(g b λq=>by rw[q,l]at a;cases a).trans (x.st b o a)) x.new u (Array.getElem?_eq_some_iff.mp h1).1 m λh' y up=>h h' y λb o a c=>up b o ((g b (j b o a c)).trans a) c
theorem Ha{oe:Obj}(hfr:A.frames=some (env::outer))(hl:s.heap.FunFrames base (env::outer))(hf:env.frame=some L)(he:s.heap.get? e=some oe)(hkb:base.StaysIn s.heap)(hen:base.get? e=none)(hd:oe.data=.fields vs)(h1:vs[1]?=some .none)(hcx:∃cx,vs[2]?=some cx/\cp cx)
  (h:∀h',ng cp base (env::outer) e oe.cls oe.dict (rawInt L) h'->s.heap.UpToSlots h'->Q () {s with heap:=h' }):wpAny M A (noteFrame (.ref e) env) Q E s:=by
 unfold noteFrame;simp only[hf];refine q04 (wpAny_field he hd h1 ?_);rw[q06 nofun];exact DV hfr hl hf he hkb hen hd (Array.getElem?_eq_some_iff.mp h1).1 hcx h
theorem ng.drop{cls fl:Value}{od:Nj}(x:ng cp base (env::outer) e cls od fl h):ng cp base outer e cls od fl h:=⟨x.st,x.new,x.ff.2.2,x.tr⟩
theorem Ho{cls:Value}{od:Nj}(hfr:A.frames=some (env::outer))(hf:env.frame=some L)(x:ng cp base (env::outer) e cls od .none s.heap)
  (h:∀h',ng cp base outer e cls od .none h'->s.heap.UpToSlots h'->Q () {s with heap:=h' }):wpAny M A (leaving env (.ref e)) Q E s:=by
 unfold leaving;exact q04 (IG hfr hf x λh1 b g=>Ac b λh2 a c=>h h2 a.drop (g.trans c))
theorem Ah{oe:Obj}(hfr:A.frames=some (env::outer))(hl:s.heap.FunFrames base (env::outer))(hf:env.frame=some L)(he:s.heap.get? e=some oe)(hkb:base.StaysIn s.heap)(hen:base.get? e=none)(hd:oe.data=.fields vs)(h1:vs[1]?=some .none)(hcx:∃cx,vs[2]?=some cx/\cp cx)
  (h:∀h',ng cp base outer e oe.cls oe.dict .none h'->s.heap.UpToSlots h'->Q () {s with heap:=h' }):wpAny M A (leaving env (.ref e)) Q E s:=by
 unfold leaving;exact q04 (Ha hfr hl hf he hkb hen hd h1 hcx λh1 b g=>Ac b λh2 a c=>h h2 a.drop (g.trans c))
end
end PySem
namespace L2
open PySem PySem.Spec PyProof.Rows
structure Fly0(P:Nf)(w:Ni)(outer:List Env)(H:Hp)(s:M9)(B:Heap)(H':Hp)(s':M9):Prop where
 st:B.StaysIn s'.heap
 ff:s'.heap.FunFrames B outer
 un:Un (nI outer) [] H H' s.heap s'.heap
 hok:kS P w H' s'.heap
 cov:∀b o,H' b=some o->∃ob,B.get? b=some ob
 old:∀b o,s.heap.get? b=some o->b∉nI outer->∃o',B.get? b=some o'
 os:s'.os=s.os
 bare:AllBare s'.gens
structure Ij(cp:Value->Prop)(P:Nf)(w:Ni)(outer:List Env)(H:Hp)(s:M9)(B:Heap)(H':Hp)(s':M9)(ea:Addr)(cls:Value)(od:Nj):Prop extends Fly0 P w outer H s B H' s' where
 fl:ng cp B outer ea cls od .none s'.heap
def IP(cp:Value->Prop)(P:Nf)(w:Ni):kT:=λouter H s E e s'=>∃ea cls od B H',e=.ref ea/\Ij cp P w outer H s B H' s' ea cls od/\H' ea=none/\E cls od H'
abbrev bN(P:Nf)(w:Ni):kT:=IP (λv=>v=.none) P w
theorem bq{cp:Value->Prop}{X:Cx}:dz (IP cp P w) X (λ_ _ _=>False):=λ_ _ _ _ _ _ _ h=>by
 obtain⟨_,_,_,_,_,_,_,_,f⟩:=h;exact f.elim
theorem B2{B:Heap}(ok:kS P w H h)(cov:∀b o,H b=some o->∃ob,B.get? b=some ob)(k:B.StaysIn h)(k':B.StaysIn h'):kS P w H h':=λa o e=>
 (ok a o e).stay (λb u hb q=>by
  have hb':∃ob,B.get? b=some ob:=by
   rcases hb with rfl | hb
   ·exact cov _ _ e
   ·exact cov _ _ hb
  obtain⟨ob,c⟩:=hb';have:=k b ob c;rw[q]at this;cases this;exact k' b _ c) (λ_ q=>q) λ_ _ q=>q
theorem bX.there(x:bX P w H h a o):∃ob,h.get? a=some ob:=by
 cases o with
 |lst xs=>obtain⟨_,_,_,_,e⟩:=x;exact⟨_,e⟩
 |tup xs=>obtain⟨_,_,_,ob,e,_⟩:=x;exact⟨_,e⟩
 |dK kvs=>obtain⟨_,_,_,_,o,_,_,e,_⟩:=x;exact⟨_,e⟩
 |dT kvs=>obtain⟨_,_,_,_,o,_,_,e,_⟩:=x;exact⟨_,e⟩
 |set S n=>obtain⟨o,_,_,_,e,_⟩:=x;exact⟨_,e⟩
 |ins C dx fs=>obtain⟨_,_,_,e,_⟩:=x;exact⟨_,e⟩
 |own y=>exact x
 |xd fs=>obtain⟨_,⟨_,_,_,e,_⟩,_⟩:=x;exact⟨_,e⟩
 |rng lo hi=>obtain⟨_,_,_,e⟩:=x;exact⟨_,e⟩
 |frz ob u=>obtain⟨e,_⟩:=x;exact⟨_,e⟩
 |tbl ps=>exact⟨_,show h.get? a=some _ from x⟩
 |met f y=>exact⟨_,show h.get? a=some _ from x⟩
 |ext φ=>obtain⟨_,e,_⟩:=x;exact e
section
variable {P:Nf}{w:Ni}{K:M6}{mg:Nc}{base:Heap}{N:Ng}{qual:Str}{scope:Scope}{f:Addr}{cd:Value}{A:Nh}{outer:List Env}{s:M9}{H:Hp}{E E1:XK}{CX:kT}
theorem Fly0.up{cp:Value->Prop}{pins:M7}{σ:St}{s':M9}{ea:Addr}{cls:Value}{od:Nj}(I:Inv X pins σ H1 s1)(hex:X.ex=[])(hst:X.stack=X.env::X.outer)(hfr:X.env.frame=some X.env.locals)(hP:X.prog=P)(hw:X.w=w)
  (x:Fly0 P w X.stack H1 s1 B H' s') (fl2:ng cp B X.outer ea cls od .none h') (up:s'.heap.UpToSlots h') :
  Ij cp P w X.outer X.H₀ X.s₀ B H' {s' with heap:=h' } ea cls od:=by
 have c:∀b,b∉X.ex:=λb=>by rw[hex];simp
 have m:∀b o,X.s₀.heap.get? b=some o->b∉X.fs->b∉nI X.stack:=λb o e a r=>by
  rw[hst]at r;unfold nI at r;rw[q0R,hfr]at r;rcases Mq.mp r with z | z
  ·exact q0O (MB e) (by rw[z];exact Nat.not_lt.mpr I.ok.above)
  ·exact a z
 have l:∀b,b∈X.fs->b∈nI X.stack:=λb a=>by
  rw[hst];unfold nI;rw[q0R,hfr];exact Mr _ a
 have G:∀b o,X.s₀.heap.get? b=some o->b∉X.fs->∃p,B.get? b=some p:=λb o e a=>by
  obtain⟨C,j⟩:=I.base.there b o e (c b);exact x.old b C j (m b o e a)
 have J:∀b∈X.fs,X.H₀ b=none:=I.ok.frf;have n:∀b o,X.s₀.heap.get? b=some o->X.H₀ b=none->b∈X.fs->∃n,h'.get? b=some {o with slots:=n}:=λb o e g a=>by
  obtain⟨sl1,j⟩:=I.base.slot b o e g a (c b);have D:=I.base.free b o e g (c b);obtain⟨sl2,k⟩:=x.un.slot b _ j D (l b a) (by simp);obtain⟨_,o3,M,O⟩:=x.ff.mem (l b a);rw[k]at M;cases M;obtain⟨y,T⟩:=up b _ k O;exact⟨y,T⟩
 refine⟨⟨fl2.st,fl2.ff,⟨λb o e g a _=>?_,λb o e g a _=>n b o e g a,λb o e g _=>?_,λb o e _=>?_,λb L q=>x.un.tups b L (I.base.tups b L q),λb o u q=>x.un.frzs b o u (I.base.frzs b o u q),λb ps q=>?_⟩,B2 x.hok x.cov x.st fl2.st,x.cov,G,x.os.trans I.os,x.bare⟩,fl2⟩
 ·have j:=I.base.keep b o e g a (c b)
  have D:=I.base.free b o e g (c b);have k:=x.un.keep b o j D (m b o e a) (by simp);obtain⟨p,v⟩:=G b o e a;have:=x.st b p v;rw[k]at this;cases this;exact fl2.st b _ v
 ·obtain⟨C,j⟩:=I.base.there b o e (c b)
  exact x.un.free b C j (I.base.free b o e g (c b)) (by simp)
 ·by_cases a:b∈X.fs
  ·obtain⟨z,S⟩:=n b o e (J b a) a
   exact⟨_,S⟩
  ·obtain⟨p,v⟩:=G b o e a
   exact⟨_,fl2.st b _ v⟩
 ·obtain⟨m1,j⟩:=I.base.tbls b ps q
  obtain⟨R,k⟩:=x.un.tbls b _ j;exact⟨m1++R,by rw[k,Array.append_assoc]⟩
theorem bh{cp:Value->Prop}(hE:∀c d H',E1 c d H'->E c d H'):dz (IP cp P w) (gO (IP cp P w) P w K mg base N qual scope f cd A outer s H E) E1:=by
 intro pins σ H1 s1 e s' I x;obtain⟨l,g,j,B,H',rfl,a,k,q⟩:=x;refine Ho I.ok.frames rfl a.fl λh' b up=>?_;exact⟨l,g,j,B,H',rfl,Fly0.up I rfl rfl rfl rfl rfl a.toFly0 b up,k,hE _ _ _ q⟩
def CV(X:Cx)(E:XK):Prop:=∀(pins:M7) (σ:St) (H:Hp) (s:M9) (h':Heap) (e:Addr) (cls:Value) (vs:Na),Inv X pins σ H s->Heap.MadeExcOf s.heap h' e cls vs->E cls none H->X.xe (.ref e) {s with heap:=h' }
theorem fo(hE:∀c d H',E1 c d H'->E c d H'):CV (gO (bN P w) P w K mg base N qual scope f cd A outer s H E) E1:=by
 intro pins σ H1 s1 h1 e cls vs I x q;have m:∀j∈(gO (bN P w) P w K mg base N qual scope f cd A outer s H E).stack,∀b,j.frame=some b->b∈nI (gO (bN P w) P w K mg base N qual scope f cd A outer s H E).stack:=λj C b r=>List.mem_filterMap.mpr ⟨j,C,r⟩;obtain⟨t0,p,ht0,htt⟩:=x.there;have B:∀b,s1.heap.get? b=none->H1 b=none:=λb r=>by
  cases z:H1 b with
  |none=>rfl
  |some o=>
   obtain⟨y,g⟩:=(I.hok b o z).there;rw[r]at g;cases g
 have n:=PySem.W.funFrames_hide I.stack m;have a:Fly0 P w (gO (bN P w) P w K mg base N qual scope f cd A outer s H E).stack H1 s1 (PySem.W.hideAll s1.heap (nI (gO (bN P w) P w K mg base N qual scope f cd A outer s H E).stack)) H1 {s1 with heap:=h1}:=
  ⟨λb o e=>x.keeps b o (PySem.W.of_hideAll _ e),n.of_keeps λb o e _=>⟨o,x.keeps b o e,rfl⟩,Un.kept x.keeps,I.hok.kept x.keeps,λb o z=>by
   obtain⟨y,g⟩:=(I.hok b o z).there;exact⟨y,PySem.W.hideAll_get _ g λl=>by rw[I.stkFree b l]at z;cases z⟩,λb o e l=>⟨o,PySem.W.hideAll_get _ e l⟩,rfl,I.bare⟩
 have k:(PySem.W.hideAll s1.heap (nI (gO (bN P w) P w K mg base N qual scope f cd A outer s H E).stack)).get? e=none:=by
  cases z:(PySem.W.hideAll s1.heap (nI (gO (bN P w) P w K mg base N qual scope f cd A outer s H E).stack)).get? e with
  |none=>rfl
  |some o=>have:=PySem.W.of_hideAll _ z;rw[x.new]at this;cases this
 refine Ah (cp:=λv=>v=.none) (s:={s1 with heap:=h1}) I.ok.frames a.ff rfl p a.st k rfl rfl ⟨_,rfl,rfl⟩ λh' u up=>?_;exact⟨e,cls,none,_,H1,rfl,Fly0.up I rfl rfl rfl rfl rfl a u up,B e x.new,hE _ _ _ q⟩
end
structure vR(K:M6)(C:Addr)(bmB:Na)(newId:String):Prop where
 exc:PySem.W.excIn K C bmB newId=true
set_option tactic.hygienic true in
theorem vR.obj{K:M6}{bmB:Na}{newId:String}(c:vR K C bmB newId)(X:K.In h):∃bm N nm q bs hdct sn sub ab col dd k0 k1 k2 k3 k5 mN,
  h.get? C=some k⁻¹/\h.Ns N mN/\mN "__init__"=none/\OwnTail h bmB bm/\∃dd' cd sl,K.lookup C=some ⟨.type "type",dd',.cls cd,sl⟩/\cd.mro=.ref C::bm:=by
 have q:=c.exc;unfold PySem.W.excIn at q;cases hl:K.lookup C with
 |none=>rw[hl]at q;cases q
 |some ob=>
  rw[hl]at q
  split at q
  ·rename_i dd cd sl e
   cases e
   split at q
   ·rename_i C' bm k0 k1 k2 k3 n k5 hm hs
    simp only[q0M,beq_iff_eq,Bool.not_eq_true']at q;obtain⟨⟨⟨⟨⟨rfl,rfl⟩,hdel⟩,ht⟩,hok⟩,hni⟩:=q;have ho:=X _ _ hl;have hsl:sl=#[k0,k1,k2,k3,some (.builtin n),k5]:=Array.toList_inj.mp hs;subst hsl;obtain⟨nm,bs,mro,ns,qn,hd,sn,sub,ab,col,del⟩:=cd;dsimp only at hm hdel hok hni ho;subst hm hdel;exact⟨bm,ns,nm,qn,bs,hd,sn,sub,ab,col,dd,k0,k1,k2,k3,k5,_,ho,.of_isNs (PySem.W.isNs_of_in X hok),PySem.W.nsMap_none_of_in X hok hni,PySem.W.tail_of_in X ht,dd,_,_,rfl,rfl⟩
   ·cases q
  ·cases q
section
variable {X:Cx}{x:Str}{np cpos pos:Pos}{e₀:Expr}{b5:Nk}{t:TA}{C:Addr}{B Bn newId nid initId inN:String}{bm bmN:Na}{E:XK}
def v4(C:Addr)(E:XK)(t:TA):TS:=λ_ σ H=>t σ H λvs H1=>vs.length<=sizeLine/\E (.ref C) none H1
theorem ER(c:vR X.K C bm newId)(Fn:ExcBaseFacts Bn newId inN bmN)(hBn:bm.contains (.type Bn)=true)(FB:ExcBaseFacts B nid initId bm)(hc:X.calm=true)(hg:Gl X x)(hm:X.mg x=some (.ref C))(hx:CV X E)(ha:PA X (e₀::b5) t)
  (hd:autoParam j⁻¹ zz2._auto_1)
  (he:autoParam (starEach (e₀::b5) X.env=(false,eval e₀ X.env)::starEach b5 X.env) zz0._auto_1) (hpl:autoParam ((backTo cpos (starEach b5 X.env)).any (·.1)=false) zz0._auto_1) :
  PS X (.Raise (some (.Call (.Name x np) (e₀::b5) [] cpos)) none pos) (v4 C E t):=by
 intro a s σ H D I h;obtain⟨l,N,nm,q,bs,hdct,sn,sub,ab,col,dd,k0,k1,k2,k3,k5,mN,r,p,k,T,_⟩:=c.obj I.mod.kin;refine wpAny_Raise_call_subU (C:=C) (nm:=nm) (q:=q) (N:=N) (bs:=bs) (bm:=l) (hdct:=hdct) (sn:=sn) (sub:=sub) (ab:=ab) (col:=col) (dd:=dd) (k0:=k0) (k1:=k1) (k2:=k2) (k3:=k3) (k5:=k5)
  Fn hBn FB (mN:=mN) (T.hasType FB.hasBase) (I.ok.hd hc) (by rw[he];show(false||(backTo cpos (starEach b5 X.env)).any (·.1))=false;rw[hpl];rfl) k (kK I hg hm ⟨rfl,?_⟩ hd)
 rw[he];have b:=ha cpos a s σ H _ I h;rw[he]at b;exact Calls.evalArgs_plain (q0T b (λus m ⟨vs,v,g,n,z,o⟩=>⟨rfl,by rw[<- n.length];exact z,g.bk _ _ r,p.keeps g.bk,T.keeps g.bk,λu e j=>hx a σ v m u e _ _ g j o⟩) λ_ _ y=>y)
end
end L2
namespace L2
open PySem PySem.Spec PyProof.Rows
section
variable {X:Cx}{pins:M7}{σ:St}{H:Hp}{s:M9}
theorem Inv.moved{ch:Nb}{h':Heap}{tk:Nat}(I:Inv X pins σ H s)(hf:∀b∈ch,pH X pins H b)(k:∀b o,b∉ch->s.heap.get? b=some o->h'.get? b=some o):Inv X pins σ H {s with heap:=h',toks:=tk}:=by
 have a:∀b o,H b=some o->b∉ch:=λb o e z=>by rw[(hf b z).1]at e;cases e
 refine I.call' (s':={s with heap:=h',toks:=tk}) (ch:=ch) rfl ⟨λb o e _ _ hc=>k b o hc e,λb o e _ _ hc=>⟨o.slots,k b o hc e⟩,λb o e n hc=>n,λb o e hc=>⟨o,k b o hc e⟩,λb xs q=>q,λb o y q=>q,λb qs q=>⟨#[],by rw[q];simp⟩⟩
  (λb o e=>(I.hok b o e).stay (λc u hc q=>k c u (by
   rcases hc with rfl | hc
   ·exact a _ _ e
   ·exact a _ _ hc) q) (λ_ q=>q) λ_ _ q=>q) I.bare λb g=>?_
 obtain⟨f0,p,f2,m,l,j⟩:=hf b g;exact⟨m,p,l,j⟩
theorem Inv.movedT{ch:Nb}{h':Heap}{tk:Nat}{T:Addr}{ob:HO}(I:Inv X pins σ H s)(hf:∀b∈ch,pH X pins H b)(k:∀b o,b∉ch->s.heap.get? b=some o->h'.get? b=some o)(hT:s.heap.objs.size<=T)(new:bX X.prog X.w (aA H T ob) h' T ob) :
  Inv X pins σ (aA H T ob) {s with heap:=h',toks:=tk}:=by
 have j:∀b o,H b=some o->b∉ch:=λb o e z=>by rw[(hf b z).1]at e;cases e
 have a:H T=none:=I.hok.fresh hT;have m:∀b o,s.heap.get? b=some o->b≠T:=λb o e z=>by rw[z]at e;exact q0O (MB e) (Nat.not_lt.mpr hT)
 refine I.call' (s':={s with heap:=h',toks:=tk}) (ch:=ch) rfl ⟨λb o e _ _ hc=>k b o hc e,λb o e _ _ hc=>⟨o.slots,k b o hc e⟩,λb o e n hc=>by rw[ao (m b o e)];exact n,λb o e hc=>⟨o,k b o hc e⟩,λb l q=>by rw[ao (aG q a)];exact q,λb o y q=>by rw[ao (aG q a)];exact q,λb qs q=>⟨#[],by rw[ao (aG q a),q];simp⟩⟩
  (λb o e=>?_) I.bare λb g=>?_
 ·by_cases g:b=T
  ·subst g
   rw[ad]at e;cases e;exact new
  ·rw[ao g]at e
   exact(I.hok b o e).stay (λc u hc q=>k c u (by
    rcases hc with rfl | hc
    ·exact j _ _ e
    ·exact j _ _ hc) q) (λc q=>by rw[ao (aG q a)];exact q) λc l q=>by rw[ao (aG q a)];exact q
 ·obtain⟨f0,w,f2,v,r,p⟩:=hf b g
  exact⟨v,w,r,p⟩
end
def IW(K:M6)(a b:Addr):It:=
 ⟨λi H=>∃xs ys x y,aO K H a xs/\aO K H b ys/\xs[i]?=some x/\ys[i]?=some y,λi H v H'=>∃T x y,v=.ref T/\H T=none/\H'=aA H T (.tup [x,y])/\(∀xs,aO K H a xs->xs[i]?=some x)/\∀ys,aO K H b ys->ys[i]?=some y,
  λi H=>∃xs ys,aO K H a xs/\aO K H b ys/\(xs.length<=i\/ys.length<=i)⟩
theorem DD{K:M6}{elts:Nk}{tp:Pos}{z TI TO:Addr}(D:ZipApart z TI TO i1 i2 l1 l2) :
  rR P w K (.Tuple elts x1 tp) (IW K l1 l2) [z,TI,TO,i1,i2] z (λi h=>IsZip h z TI TO .none/\IsPair h TI (.ref i1) (.ref i2)/\(∃a b,IsPair h TO a b)/\h.IsListIter i1 l1 i/\h.IsListIter i2 l2 i) where
 mem:=by simp
 obj:=λi h n b L=>by
  obtain⟨p,g,⟨a,c,j⟩,⟨o1,e1,c1,d1⟩,⟨o2,e2,c2,d2⟩⟩:=n;simp only[Mq,List.not_mem_nil,or_false]at L;rcases L with rfl | rfl | rfl | rfl | rfl
  ·exact⟨_,p,λv q=>by cases q⟩
  ·exact⟨_,g,λv q=>by cases q⟩
  ·exact⟨_,j,λv q=>by cases q⟩
  ·exact⟨_,e1,λv q=>by rw[d1]at q;cases q⟩
  ·exact⟨_,e2,λv q=>by rw[d2]at q;cases q⟩
 keep:=λi h h' n m=>by
  obtain⟨p,g,⟨a,b,j⟩,h1,h2⟩:=n;exact⟨m z (by simp) _ p,m TI (by simp) _ g,⟨a,b,m TO (by simp) _ j⟩,h1.at λo e=>m i1 (by simp) o e,h2.at λo e=>m i2 (by simp) o e⟩
 item:=by
  intro X hP hw hK l i M s σ H E I hf n hg;subst hP hw hK;obtain⟨xs,ys,x,y,u,r,hx,hy⟩:=hg;obtain⟨R,C,p1,a7⟩:=I.list u;obtain⟨O,B,p2,a0⟩:=I.list r;obtain⟨U,b1,Z⟩:=C.get hx;obtain⟨T,a9,Y⟩:=B.get hy;obtain⟨p,g,⟨a,b,j⟩,h1,h2⟩:=n;refine wpAny_pyNext_zip_item D p g j h1 h2 p1.isList p2.isList (x:=U) (y:=T) (by simpa using b1) (by simpa using a9) λh' a1 a2 a3 a4 a5 a6 m=>?_;refine⟨_,rfl,wpAny_letOwnedTupleGo_zip a1 λS a8 k=>?_⟩;have J:H s.heap.objs.size=none:=I.hok.fresh (My _);have lt:∀{c o},s.heap.get? c=some o->s.heap.objs.size≠c:=λe=>Nat.ne_of_gt (MB e);have kk:∀c o,c∉[z,TI,TO,i1,i2]->s.heap.get? c=some o->S.get? c=some o:=λc o l e=>
   k.extBut _ _ (λq=>l (by simp[q])) (m c o (λq=>l (by simp[q])) (λq=>l (by simp[q])) (λq=>l (by simp[q])) (λq=>l (by simp[q])) e)
  have hT:S.get? s.heap.objs.size=some {cls:=.type "tuple",data:=.seq #[U,T]}:=k.extBut _ _ (lt p) a5;refine⟨.ref s.heap.objs.size,aA H s.heap.objs.size (.tup [x,y]),I.movedT (tk:=s.toks) hf kk (My _) ⟨show 2<=sizeLine from by decide +kernel,[U,T],.cons Z (.cons Y .nil),_,hT,rfl,_,rfl⟩,rfl,
   ⟨_,x,y,rfl,J,rfl,λzs G=>by rw[I.list_inj G u];exact hx,λzs G=>by rw[I.list_inj G r];exact hy⟩,
   ⟨a8,k.extBut _ _ D.TIz (m _ _ D.TIz D.TITO D.TIi1 D.TIi2 g),⟨_,_,k.extBut _ _ D.TOz a2⟩,a3.extBut k.extBut D.i1z,a4.extBut k.extBut D.i2z⟩,λb L=>?_⟩
  have b2:b≠s.heap.objs.size:=by
   obtain⟨o1,e1,_⟩:=h1;obtain⟨o2,e2,_⟩:=h2;simp only[Mq,List.not_mem_nil,or_false]at L;rcases L with rfl | rfl | rfl | rfl | rfl
   ·exact(lt p).symm
   ·exact(lt g).symm
   ·exact(lt j).symm
   ·exact(lt e1).symm
   ·exact(lt e2).symm
  rw[ao b2];exact(hf b L).1
 done:=by
  intro X hP hw hK l i M s σ H E I hf n hg;subst hP hw hK;obtain⟨xs,ys,u,r,hx⟩:=hg;obtain⟨R,C,p1,a7⟩:=I.list u;obtain⟨O,B,p2,a0⟩:=I.list r;obtain⟨p,g,⟨a,b,j⟩,h1,h2⟩:=n;have l1':=C.length;have l2':=B.length;refine wpAny_pyNext_zip_end (I.ok.hd l) D p g j h1 h2 p1.isList p2.isList ?_ λh' m=>⟨rfl,I.moved (tk:=s.toks) hf λc o l e=>m c o (λq=>l (by simp[q])) (λq=>l (by simp[q])) (λq=>l (by simp[q])) (λq=>l (by simp[q])) e⟩;rcases hx with hx | hx
  ·exact .inl (by simp;omega)
  ·exact .inr (by simp;omega)
 self:=λ_ _ _ _ _ n h=>wpAny_pyIter_zip n.1 h
theorem tN(n l1 l2:Nat)(h1:l1<n)(h2:l2<n):ZipApart (n+4) (n+2) (n+3) n (n+1) l1 l2:=by
 constructor<;>exact λe=>q0O (show(_:Nat)=_ from e) ⋯
section
variable {X:Cx}{elts:Nk}{x1:Nat}{tp:Pos}
def HI(K:M6)(ta:TA):TI:=λσ H R=>ta σ H λvs H1=>∃a b xs ys,vs=[.ref a,.ref b]/\aO K H1 a xs/\aO K H1 b ys/\R (IW K a b) H1
theorem DA{a b:Expr}{ta:TA}{p pos:Pos}(hg:Gl X "zip")(hm:X.mg "zip"=none)(ha:PA X [a,b] ta)(hs:autoParam (starEach [a,b] X.env=[(false,eval a X.env),(false,eval b X.env)]) zz0._auto_1)(hs2:autoParam (starEach [b] X.env=[(false,eval b X.env)]) zz0._auto_1):PI X (.Tuple elts x1 tp) (.Call (.Name "zip" p) [a,b] [] pos) (HI X.K ta):=by
 intro g s σ H R I h;refine Call_ (fG I hg hm boot_zip (PyProof.Rows.callWith_type1 (bV (ha pos g s σ H _ I h) λus c ⟨vs,B,k,O,S⟩=>?_) (by rw[hs,hs2]) (by rw[hs2];rfl)));obtain⟨l1,l2,xs,ys,rfl,o,n,q⟩:=S;obtain⟨u,v,rfl,M,L⟩:=O.two;cases M;cases L;obtain⟨its1,rv1,x,_⟩:=k.list o;obtain⟨its2,rv2,w,_⟩:=k.list n;refine call_zip_2 x.isList w.isList λU r J G D C z6 T=>?_;have m:l1<c.heap.objs.size:=by obtain⟨_,e,_⟩:=x.isList;exact MB e
 have l:l2<c.heap.objs.size:=by obtain⟨_,e,_⟩:=w.isList;exact MB e
 have Y:Inv X g σ B {c with heap:=U }:=k.kept (t':=c.toks) T;refine wpAny_pyIter_zip r ?_;refine⟨c.heap.objs.size+4,[c.heap.objs.size+4,c.heap.objs.size+2,c.heap.objs.size+3,c.heap.objs.size,c.heap.objs.size+1],_,_,B,rfl,Y,DD (l1:=l1) (l2:=l2) ?_,⟨r,J,⟨_,_,G⟩,D,C⟩,λb y=>?_,q⟩
 ·exact tN _ _ _ m l
 ·have j:c.heap.objs.size<=b:=by
   simp only[Mq,List.not_mem_nil,or_false]at y;rcases y with e | e | e | e | e<;>(rw[e];first | exact My _ | exact Nat.le_add_right _ _)
  exact k.fpOk j (k.hok.fresh j)
end
end L2
namespace PySem.W
open PySem PySem.Spec PySem.Calls PyProof.Rows
section
variable {prog:Nf}{w:Ni}{A:Nh}{E:M5}{s:M9}{K:Frag}{x D:Addr}{ox:Obj}{odo:Option Obj}{name:Str}
structure XTy(K:Frag)(D:Addr):Prop where
 ga:findIn K (.ref D) "__getattribute__"=some p⁻¹
 gh:findIn K (.ref D) "__getattr__"=some none
 mb:mroIn K D (.type "BaseException")=some true
 mo:mroIn K D (.type "object")=some true
 ha:findIn K (.ref D) "__class__"=some (some f⁻¹)
 hn:specialIn K f⁻¹ "__get__"=some (some (.builtin "getset_descriptor.__get__"))
 tk:takesIn K f⁻¹=some true
 cl:∃dd cd sl,K.lookup D=some ⟨.type "type",dd,.cls cd,sl⟩
end
end PySem.W
namespace L2
open PySem PySem.Spec PyProof.Rows
structure XR(K:M6)(C:Addr):Prop where
 ex:∃(bm bmN:Na) (newId Bn inN B nid initId:String),vR K C bm newId/\ExcBaseFacts Bn newId inN bmN/\bm.contains (.type Bn)=true/\ExcBaseFacts B nid initId bm
theorem dC{X:Cx}{np cpos pos:Pos}{e₀:Expr}{b5:Nk}{t:TA}(c:XR X.K C)(hc:X.calm=true)(hg:Gl X x)(hm:X.mg x=some (.ref C))(hx:CV X E)(ha:PA X (e₀::b5) t)
  (hd:autoParam j⁻¹ zz2._auto_1)
  (he:autoParam (starEach (e₀::b5) X.env=(false,eval e₀ X.env)::starEach b5 X.env) zz0._auto_1) (hpl:autoParam ((backTo cpos (starEach b5 X.env)).any (·.1)=false) zz0._auto_1) :
  PS X (.Raise (some (.Call (.Name x np) (e₀::b5) [] cpos)) none pos) (v4 C E t):=by
 obtain⟨bm,bmN,newId,Bn,inN,B,nid,initId,g,e,b,a⟩:=c.ex;exact ER g e b a hc hg hm hx ha hd he hpl
section
variable {P:Nf}{w:Ni}{K:M6}{mg:Nc}{base:Heap}
theorem cu.okX{qual:Str}{st:Stmt}{f:Addr}{ps:Ng}{sp:Sp}(F:cu K x qual st f fd)(S:ay N ps (ak st))(len:∀vs H Q E,sp vs H Q E->vs.length=ps.length)
  (hbody:∀(cdv:Value) (A:Nh) (outer:List Env) (s:M9) (H:Hp) (vs:List V) (Q:VK) (E:XK),dh k (A.deeper (envOfC qual (ak st) s.heap.objs.size f cdv))->sp vs H Q E ->
   ∃t,wz (gO (bN P w) P w K mg base N qual (ak st) f cdv A outer s H E) (aX st) t/\t {nx:=λ_ H'=>Q .non H',rt:=Q} (start N vs) H):aT P w K mg base (bN P w) (k+1) f fd ps sp:=by
 obtain⟨oc,od,kV,doc,pm,an,cdv,ct,osl,rfl,c,b⟩:=F.ex;exact GB c b S len λA outer s H vs Q E hr a=>hbody cdv A outer s H vs Q E hr a
theorem aT.lift{CX:kT}{f:Addr}{ps:Ng}{sp:Sp}(F:↑aT k f fd ps sp):aT P w K mg base CX k f fd ps sp:=
 ⟨F.len,λA outer s H args us vs Q E hr he hb hv hs=>codeAny_mono (F.run A outer s H args us vs Q E hr he hb hv hs) λr s' hq=>by
  cases r with
  |error e=>exact False.elim hq
  |ok fl=>cases fl<;>exact hq⟩
theorem dO.lift{CX:kT}{ps:Ng}{sp:Sp}(c:↑dO k x ps sp):dO P w K mg base CX k x ps sp:=by
 obtain⟨f,a,F,r⟩:=c.ex;exact⟨f,a,F.lift,r⟩
end
theorem pU{X:Cx}{K:M6}{es:Nk}{t:GG}{n:Nat}{pos:Pos}(hK:X.K=K)(hc:X.calm=true)(h:IF X es t)
  (hn:autoParam ((assignEach es X.env).length=n) zz0._auto_1) (hst:autoParam ((assignEach es X.env).findIdx? (·.1)=none) zz0._auto_1):PG X (.Tuple es k pos) (CS K n t):=hK▸fg hc h hn hst
section
variable {K:M6}{g:TG}{ti:TT}{te:TE}{σ:St}{H:Hp}{Q:List V->Hp->Prop}
theorem xq{b:Addr}{xs ys:List V}{n:Nat}(hn:n=min xs.length ys.length)(Pv:Nat->List V->St->Hp->Prop)(h0:Pv 0 [] σ H)(hz:∀i acc σ H,Pv i acc σ H->acc.length<sizeLine)(hi:∀i acc σ H,Pv i acc σ H->i<=n)
  (hl:∀i acc σ H,Pv i acc σ H->aO K H a xs/\aO K H b ys)
  (hs:∀i x y acc σ H T,xs[i]?=some x->ys[i]?=some y->Pv i acc σ H->H T=none->g (.ref T) σ (aA H T (.tup [x,y])) λσ2 H3=>ti σ2 H3 λb H4=>if b=true then te σ2 H4 λv H5=>Pv (i+1) (acc++[v]) σ2 H5 else Pv (i+1) acc σ2 H4)
  (he:∀acc σ H,Pv n acc σ H->Q acc H):iK (IW K a b) g ti te σ H Q:=by
 refine jt (J:=IW K a b) (g:=g) (ti:=ti) (te:=te) (Q:=Q) (n:=n) Pv h0 hz hi (λacc σ H w=>⟨xs,ys,(hl _ _ _ _ w).1,(hl _ _ _ _ w).2,⋯⟩)
  (λi acc σ H hlt w=>⟨xs,ys,xs[i]'⋯,ys[i]'⋯,(hl _ _ _ _ w).1,(hl _ _ _ _ w).2,L_ ⋯,L_ ⋯⟩) (λi x acc σ H H2 hlt w y=>?_) he
 obtain⟨T,x,y,rfl,j,rfl,e,c⟩:=y;exact hs i x y acc σ H T (e xs (hl _ _ _ _ w).1) (c ys (hl _ _ _ _ w).2) w j
end
end L2
namespace L2
open PySem PySem.Spec PyProof.Rows
def Ix(K:M6)(a:Addr):It:=
 ⟨λi H=>∃xs x,aO K H a xs/\xs[i]?=some x,λi H v H'=>∃T x,v=.ref T/\H T=none/\H'=aA H T (.tup [.int (i:Int),x])/\∀xs,aO K H a xs->xs[i]?=some x,λi H=>∃xs,aO K H a xs/\xs.length<=i⟩
theorem AN{K:M6}{elts:Nk}{tp:Pos}{e it:Addr}(hei:e≠it) :
  rR P w K (.Tuple elts x1 tp) (Ix K l) [e,it] e (λi h=>(∃old,IsEnum h e it i old)/\h.IsListIter it l i) where
 mem:=by simp
 obj:=λi h g b r=>by
  obtain⟨⟨old,a⟩,⟨o1,T,c1,d1⟩⟩:=g;simp only[Mq,List.not_mem_nil,or_false]at r;rcases r with rfl | rfl
  ·exact⟨_,a,λv q=>by cases q⟩
  ·exact⟨_,T,λv q=>by rw[d1]at q;cases q⟩
 keep:=λi h U g n=>by
  obtain⟨⟨old,a⟩,h1⟩:=g;exact⟨⟨old,n e (by simp) _ a⟩,h1.at λo e'=>n it (by simp) o e'⟩
 item:=by
  intro X R L S j i y s σ H E I hf g hg;subst R L S;obtain⟨Y,x,B,J⟩:=hg;obtain⟨D,C,p,hz⟩:=I.list B;obtain⟨u,hu,Z⟩:=C.get J;obtain⟨⟨old,a⟩,h1⟩:=g;obtain⟨o1,T,_⟩:=id h1;refine wpAny_pyNext_enum_item a h1 p.isList (x:=u) (by simpa using hu) hei λU a1 a2 a3 a4 n=>?_;refine⟨_,rfl,wpAny_letOwnedTupleGo_enum a1 λh2 O k=>?_⟩;have m:H s.heap.objs.size=none:=I.hok.fresh (My _);have lt:∀{c o},s.heap.get? c=some o->s.heap.objs.size≠c:=λe=>Nat.ne_of_gt (MB e);have kk:∀c o,c∉[e,it]->s.heap.get? c=some o->h2.get? c=some o:=λc o j q=>
   k.extBut _ _ (λz=>j (by simp[z])) (n c o (λz=>j (by simp[z])) (λz=>j (by simp[z])) q)
  have hT:h2.get? s.heap.objs.size=some {cls:=.type "tuple",data:=.seq #[.int i s.toks,u]}:=k.extBut _ _ (lt a) a3;refine⟨.ref s.heap.objs.size,aA H s.heap.objs.size (.tup [.int i,x]),I.movedT (tk:=s.toks+1) hf kk (My _) ⟨show 2<=sizeLine from by decide +kernel,[.int i s.toks,u],.cons ⟨_,rfl⟩ (.cons Z .nil),_,hT,rfl,_,rfl⟩,rfl,
   ⟨_,x,rfl,m,rfl,λzs G=>by rw[I.list_inj G B];exact J⟩,⟨⟨u,by simpa using O⟩,a2.extBut k.extBut (Ne.symm hei)⟩,λb r=>?_⟩
  have M:b≠s.heap.objs.size:=by
   simp only[Mq,List.not_mem_nil,or_false]at r;rcases r with rfl | rfl
   ·exact(lt a).symm
   ·exact(lt T).symm
  rw[ao M];exact(hf b r).1
 done:=by
  intro X R L S j i y s σ H E I hf g hg;subst R L S;obtain⟨Y,B,J⟩:=hg;obtain⟨D,C,p,hz⟩:=I.list B;obtain⟨⟨old,a⟩,h1⟩:=g;have l1':=C.length;refine wpAny_pyNext_enum_end (I.ok.hd j) a h1 p.isList (by simp;omega) λU n=>⟨rfl,I.moved (tk:=s.toks) hf λc o j e=>n c o (λq=>j (by simp[q])) e⟩
 self:=λ_ _ _ _ _ g h=>let ⟨⟨_,a⟩,_⟩:=g;wpAny_pyIter_enum a h
section
variable {X:Cx}{elts:Nk}{x1:Nat}{tp:Pos}
def D9(K:M6)(ta:TA):TI:=λσ H R=>ta σ H λvs H1=>∃a xs,vs=[.ref a]/\aO K H1 a xs/\R (Ix K a) H1
theorem pX{a:Expr}{ta:TA}{p pos:Pos}(hg:Gl X "enumerate")(hm:X.mg "enumerate"=none)(ha:PA X [a] ta)(hs:autoParam (starEach [a] X.env=[(false,eval a X.env)]) zz0._auto_1):PI X (.Tuple elts x1 tp) (.Call (.Name "enumerate" p) [a] [] pos) (D9 X.K ta):=by
 intro c s σ H R I h;refine Call_ (fG I hg hm boot_enumerate (PyProof.Rows.callWith_type1 (bV (ha pos c s σ H _ I h) λus g ⟨vs,o,k,w,x⟩=>?_) (by rw[hs];rfl) (by rfl)));obtain⟨l,xs,rfl,B,q⟩:=x;obtain⟨u,rfl,v⟩:=w.one;cases v;obtain⟨its,rv,y,_⟩:=k.list B;refine call_enumerate_list y.isList λD m r z3 C=>?_;have G:Inv X c σ o {g with heap:=D }:=k.kept (t':=g.toks) C;refine wpAny_pyIter_enum m ?_;refine⟨g.heap.objs.size+1,[g.heap.objs.size+1,g.heap.objs.size],_,_,o,rfl,G,AN (l:=l) (Nat.ne_of_gt (MI _)),⟨⟨_,m⟩,r⟩,λb n=>?_,q⟩;have j:g.heap.objs.size<=b:=by
  simp only[Mq,List.not_mem_nil,or_false]at n;rcases n with e | e<;>(rw[e];first | exact My _ | exact Nat.le_add_right _ _)
 exact k.fpOk j (k.hok.fresh j)
end
section
variable {K:M6}{g:TG}{tb:TS}{D:iO}{σ:St}{H:Hp}
theorem nK{xs:List V}(Pv:Nat->St->Hp->Prop)(h0:Pv 0 σ H)(hl:∀i σ H,i<=xs.length->Pv i σ H->aO K H a xs)
  (hs:∀(i:Nat) x σ H T,xs[i]?=some x->Pv i σ H->H T=none->g (.ref T) σ (aA H T (.tup [.int (i:Int),x])) λσ2 H2=>tb {D with nx:=Pv (i+1),ct:=Pv (i+1),bk:=D.nx} σ2 H2) (hd:∀σ H,Pv xs.length σ H->D.nx σ H):u5 (Ix K a) g tb D σ H:=by
 refine⟨λi m σ H=>m=xs.length-i/\i<=xs.length/\Pv i σ H,⟨xs.length,by simp,Mz _,h0⟩,?_⟩;rintro i m σ H ⟨rfl,c,p⟩;have q:=hl i σ H c p
 by_cases b:i<xs.length
 ·refine .inr ⟨⟨xs,xs[i],q,by simp[b]⟩,Pv (i+1),λσ' k p'=>⟨xs.length-(i+1),⋯,rfl,b,p'⟩,λx k y=>?_⟩
  obtain⟨T,x,rfl,j,rfl,y⟩:=y;exact hs i x σ _ T (y xs q) p j
 ·have e:i=xs.length:=by omega
  subst e;exact .inl ⟨⟨xs,q,My _⟩,hd σ H p⟩
end
end L2
namespace PySem
open Sem (wp)
section
variable {M:Model}{A:Nh}{E:M5}{env:Env}
variable {nm q:Str}{C N:Addr}{bs bm:Na}{hdct:Bool}{sn:Ng}{sub:Na}{ab:Bool}{col:Option Bool}{dd:Nj}{k0 k1 k2 k3 k5:Option Value}{newId:String}
theorem su{Q:Flow->Shared->Prop}(hbase:bm.contains (.type "BaseException")=true)(hh:A.handled=none)
  (h:wpAny M A x (λv s₁=>∃e oe vs,v=.ref e/\s₁.heap.get? C=some k⁻¹/\s₁.heap.get? e=some oe/\oe.cls=.ref C/\oe.data=.fields vs/\vs[1]?=some .none/\E (.ref e) s₁) E s) :
  wpAny M A (raiseStmt env (some x) none) Q E s:=by
 have a:(Value.ref C::bm).contains (.type "BaseException")=true:=by rw[List.contains_cons,hbase,Bool.or_true]
 unfold raiseStmt;refine q04 (q0T h (λv s₁ k=>?_) λ_ _ x=>x);obtain⟨e,⟨oc,od,dt,sl⟩,vs,rfl,j,m,c,b,l,n⟩:=k;dsimp only at c b;subst c b;obtain⟨hp,g,d,tk,os⟩:=s₁
 repeat (first | with_reducible refine wpAny_loadPart_at m ?_ | with_reducible refine wpAny_loadPart_at j ?_ | (with_reducible refine wpAny_isSubtype_exc j ?_;rw[a]) | wp_step)
 rw[l];refine q05 ?_;rw[q06 nofun];exact q05 (wpAny_raiseNew_none hh n)
end
section
variable {prog:Nf}{w:Ni}{A:Nh}{E:M5}{h:Heap}{g:Array GenState}{d:Drawn}{t:Nat}{os:OsState}
variable {nm q:Str}{C N:Addr}{bs bm bmB:Na}{hdct:Bool}{sn:Ng}{sub:Na}{ab:Bool}{col:Option Bool}{dd:Nj}{k0 k1 k2 k3 k5:Option Value}{B Bn newId nid initId inN:String}{bmN:Na}{K:M6}
theorem kY(Fn:ExcBaseFacts Bn newId inN bmN)(hBn:bmB.contains (.type Bn)=true)(F:ExcBaseFacts B nid initId bmB)(T:OwnTail h bmB bm)(X:K.In h){b5:Na}{fI:Addr}{Q:Fin->Shared->Prop}
  (hC:h.get? C=some k⁻¹) (hi:PySem.W.findIn K (.ref C) "__init__"=some (some (.ref fI))) (hf:PySem.W.typeIn K (.ref fI)=some (.type "function"))
  (hq:∀h' e,Heap.MadeExcOf h h' e (.ref C) b5 ->
   wpAny d⁻¹ A (call (.ref fI) (.ref e::b5)) (λr s'=>r=.none/\Q (.done (.ret (.ref e))) s') E ⟨h',g,d,t,os⟩) (hrest:b5.length<=sizeLine) :
  wpAny d⁻¹ A (Builtin.«type.__call__» ⟨.ref C::b5,[]⟩) Q E ⟨h,g,d,t,os⟩:=by
 repeat (first | with_reducible refine wpAny_loadPart_at hC ?_ | with_reducible refine wpAny_madeBy_exc hC ?_ | wp_step)
 refine codeAny_call_builtin_code (Code.quiet_builtin _ Fn.quiet) (wpAny_check_new_subU Fn hBn T hC ?_);refine codeAny_exc_new_subU Fn hBn F T hC ?_ hrest;show wpAny _ _ _ _ _ _;have j:=Ma {cls:=.ref C,data:=.fields #[.ref h.objs.size,.none,.none,.none,.bool false,.none]}
  (Ma {cls:=.type "tuple",data:=.seq b5.toArray} hC)
 have a:((h.push {cls:=.type "tuple",data:=.seq b5.toArray}).push
   {cls:=.ref C,data:=.fields #[.ref h.objs.size,.none,.none,.none,.bool false,.none]}).get? (h.objs.size+1)=some
   {cls:=.ref C,data:=.fields #[.ref h.objs.size,.none,.none,.none,.bool false,.none]}:=by heap_get
 have c:(Value.ref C::bm).contains (.ref C)=true:=by simp
 have k:K.In ((h.push {cls:=.type "tuple",data:=.seq b5.toArray}).push {cls:=.ref C,data:=.fields #[.ref h.objs.size,.none,.none,.none,.bool false,.none]}):=
  X.keeps λb o e=>Ma _ (Ma _ e)
 unfold isInstance
 repeat (first | with_reducible refine wpAny_loadPart_at a ?_ | (with_reducible refine wpAny_isSubtype_exc j ?_;rw[c]) | wp_step)
 show wpAny _ _ (typeLookup (.ref C) _) _ _ _;refine(PySem.W.looks_findIn k hi).at ?_;refine q0U (q04 ((PySem.W.bind_fn k _ hf).at ?_));refine q04 (q0T (hq _ (h.objs.size+1) ⟨λb o l=>Ma _ (Ma _ l),Heap.get?_none_of_le (Nat.le_succ _),h.objs.size,a,Heap.get?_none_of_le (My _),?_⟩) (λr s' hr=>?_) λ_ _ x=>x)
 ·exact Ma _ (Heap.get?_push_at rfl rfl)
 ·obtain⟨rfl,m⟩:=hr
  wp_walk
  exact m
theorem qi(Fn:ExcBaseFacts Bn newId inN bmN)(hBn:bmB.contains (.type Bn)=true)(F:ExcBaseFacts B nid initId bmB)(T:OwnTail h bmB bm)(X:K.In h){b5:Na}{fI:Addr}{Q:M5}
  (hC:h.get? C=some k⁻¹) (hi:PySem.W.findIn K (.ref C) "__init__"=some (some (.ref fI))) (hf:PySem.W.typeIn K (.ref fI)=some (.type "function"))
  (hq:∀h' e,Heap.MadeExcOf h h' e (.ref C) b5 ->
   wpAny d⁻¹ (A.under (.builtin "type.__call__" ⟨.ref C::b5,[]⟩)) (call (.ref fI) (.ref e::b5)) (λr s'=>r=.none/\Q (.ref e) s') E ⟨h',g,d,t,os⟩) (hrest:b5.length<=sizeLine) :
  wpAny d⁻¹ A (call (.ref C) b5) Q E ⟨h,g,d,t,os⟩:=by
 have f1:=tc_lookup;have f2:=tc_bind (.ref C);have hT:(⟨h,g,d,t,os⟩:Shared).TypeIs (.ref C) "type":=⟨_,hC,rfl⟩;refine wpAny_call (codeAny_of_tree ?_);show wpAny _ _ (callAny (.ref C) _) _ _ _
 repeat (any_goals (first | assumption | with_reducible refine wpAny_loadPart_at hC ?_ | wp_step))
 refine⟨rfl,?_⟩;refine codeAny_call_builtin_at (Code.quiet_builtin _ m⁻¹) entry_typeCall (wpAny_check_type_call_sub hC (kY (hrest:=hrest) Fn hBn F T X hC hi hf λh' e a=>?_));exact hq h' e a
end
section
variable {prog:Nf}{w:Ni}{A:Nh}{E:M5}{s:M9}{env:Env}
variable {nm q:Str}{C N:Addr}{bs bm bmB:Na}{hdct:Bool}{sn:Ng}{sub:Na}{ab:Bool}{col:Option Bool}{dd:Nj}{k0 k1 k2 k3 k5:Option Value}{B Bn newId nid initId inN:String}{bmN:Na}{K:M6}
theorem on(Fn:ExcBaseFacts Bn newId inN bmN)(hBn:bmB.contains (.type Bn)=true)(F:ExcBaseFacts B nid initId bmB){x:Str}{np cpos pos:Pos}{args:Nk}{fI:Addr}{Q:Flow->Shared->Prop}
  (hbase:bm.contains (.type "BaseException")=true) (hh:A.handled=none) (hplain:(backTo cpos (starEach args env)).any (·.1)=false) (hi:PySem.W.findIn K (.ref C) "__init__"=some (some (.ref fI))) (hf:PySem.W.typeIn K (.ref fI)=some (.type "function"))
  (h:wpAny d⁻¹ A (eval (.Name x np) env) (λf s₁=>f=.ref C/\wpAny d⁻¹ A (evalArgs (.ref C) true (backTo cpos (starEach args env)) [])
   (λa s₂=>a.kw=[]/\a.pos.length<=sizeLine/\s₂.heap.get? C=some k⁻¹/\K.In s₂.heap/\OwnTail s₂.heap bmB bm /\
    ∀h' e,Heap.MadeExcOf s₂.heap h' e (.ref C) a.pos->wpAny d⁻¹ (A.under (.builtin "type.__call__" ⟨.ref C::a.pos,[]⟩)) (call (.ref fI) (.ref e::a.pos))
     (λr s'=>r=.none/\∃oe vs,s'.heap.get? C=some k⁻¹/\s'.heap.get? e=some oe/\oe.cls=.ref C/\oe.data=.fields vs/\vs[1]?=some .none/\E (.ref e) s') E {s₂ with heap:=h' }) E s₁) E s) :
  wpAny d⁻¹ A (exec (.Raise (some (.Call (.Name x np) args [] cpos)) none pos) env) Q E s:=by
 rw[arm_exec_Raise];simp only[evalOpt,Option.map];refine q04 (wpAny_standAt (su (C:=C) (nm:=nm) (q:=q) (N:=N) (bs:=bs) (bm:=bm) (hdct:=hdct) (sn:=sn) (sub:=sub) (ab:=ab) (col:=col) (dd:=dd) (k0:=k0) (k1:=k1) (k2:=k2) (k3:=k3) (k5:=k5) (newId:=newId) hbase hh (q04 (q0T (wpAny_Call_ofName (q0T h (λf s₁ j=>?_) λ_ _ x=>x)) (λv s₃ n=>q04 (wpAny_standAt (q05 n))) λ_ _ x=>x))));obtain⟨rfl,j⟩:=j;unfold callWith;refine q04 (q0U (q0T j (λa s₂ c=>q04 (wpAny_standAt ?_)) λ_ _ x=>x));obtain⟨apos,l⟩:=a;obtain⟨k,b,m,p,T,c⟩:=c;obtain rfl:l=[]:=k;obtain⟨hp,g,d,tk,os⟩:=s₂;simp only[hplain];refine q04 (wpAny_keeperOf_exc m ?_);refine q04 (qi (hrest:=b) Fn hBn F T p m hi hf λh' e o=>q0T (c h' e o) (λr s' hr=>⟨hr.1,q04 (q0U (wpAny_point (q05 ?_)))⟩) λ_ _ x=>x);obtain⟨_,oe,vs,J,I,G,D,y,u⟩:=hr;exact⟨e,oe,vs,rfl,J,I,G,D,y,u⟩
end
end PySem
namespace PySem.W
open PySem PySem.Spec PySem.Calls PyProof.Rows
open Builtin Builtin.ObjectAttr
def excOut(K:Frag)(C:Addr)(bmB:Na)(newId:String):Bool:=match K.lookup C with
 |some ⟨.type "type",_,.cls cd,sl⟩=>(match cd.mro,sl.toList with
  | .ref C'::bm,[_,_,_,_,some (.builtin n),_]=>C'==C&&n==newId && !cd.hasDel&&tailIn K bmB bm&&nsOkIn K cd.ns
  |_,_=>false)
 |_=>false
def strip:List Value->List Value
 | .ref _::r=>strip r
 |l=>l
theorem mM(self:Value):∀{l bm:Na},strip l=bm->refuseLoop self "__setattr__" bm=pure ()->refuseLoop self "__setattr__" l=pure ()
 | [],_,e,h=>by rw[show([]:List Value)=_ from e];exact h
 | .ref c::r,_,e,h=>by rw[refuseLoop_ref];exact mM self (l:=r) e h
 | .type n::r,_,e,h=>by rw[show(Value.type n::r)=_ from e];exact h
 | .none::r,_,e,h=>by rw[show(Value.none::r)=_ from e];exact h
 | .bool b::r,_,e,h=>by rw[show(Value.bool b::r)=_ from e];exact h
 | .int i t::r,_,e,h=>by rw[show(Value.int i t::r)=_ from e];exact h
 | .float i t::r,_,e,h=>by rw[show(Value.float i t::r)=_ from e];exact h
 | .str i t::r,_,e,h=>by rw[show(Value.str i t::r)=_ from e];exact h
 | .bytes i t::r,_,e,h=>by rw[show(Value.bytes i t::r)=_ from e];exact h
 | .builtin n::r,_,e,h=>by rw[show(Value.builtin n::r)=_ from e];exact h
 | .ellipsis::r,_,e,h=>by rw[show(Value.ellipsis::r)=_ from e];exact h
 | .notImplemented::r,_,e,h=>by rw[show(Value.notImplemented::r)=_ from e];exact h
structure XSt(K:Frag)(C:Addr)(f:Str):Prop where
 sa:findIn K (.ref C) "__setattr__"=some o⁻¹
 st:∃cd,clsIn K C=some cd/\strip cd.mro=[.type "ValueError",.type "Exception",.type "BaseException",.type "object"]/\cd.hasDict=true/\cd.mro.contains (.type "object")=true/\cd.mro.isEmpty=false
 no:findIn K (.ref C) f=some none
section
variable {prog:Nf}{w:Ni}{A:Nh}{E:M5}{s:M9}{K:Frag}{x C:Addr}{ox:Obj}{vs:Array Value}{name:Str}{v:Value}
theorem set_new{Q:Unit->Shared->Prop}(X:K.In s.heap)(c:XSt K C name)(hx:s.heap.get? x=some ox)(hcl:ox.cls=.ref C)(hdn:ox.dict=none)(hdt:ox.data=.fields vs)
  (h:∀h' t',(∀b o,b≠x->s.heap.get? b=some o->h'.get? b=some o)->h'.get? x=some {ox with dict:=some s.heap.objs.size}->h'.Ns1 s.heap.objs.size (λy=>if y=name then some v else none)->Q () {s with heap:=h',toks:=t' }) :
  wpAny d⁻¹ A (setAttr (.ref x) name v) Q E s:=by
 obtain⟨Y,M,p,D,q,u⟩:=c.st;obtain⟨oc,od,dt,O⟩:=ox;dsimp only at hcl hdn hdt;subst hcl hdn hdt;have J:InstAt s.heap x ⟨.ref C,none,.fields vs,O⟩ C none:=⟨hx,rfl,rfl,trivial⟩;obtain⟨a,g,d,t,os⟩:=s;have m:=PySem.F.store_object;refine set_plain X J c.sa ?_;have n:Looks d⁻¹ a (isInstance (.ref x) (.type "object")) true:=J.type.andThen (looks_mroIn X (by unfold mroIn;rw[M,Option.bind_some,q06 (by rw[u];decide),q]));refine codeAny_call_builtin m.slot.plain m.entry (@check_slot d⁻¹ _ _ _ "object.__setattr__" "object" "__setattr__" (.ref x) [.str name t,v] [] _ m.kind m.split n (m.args (.ref x) (.str name t) v) ?_);have S:Looks d⁻¹ a (mroOf (.ref C)) Y.mro:=(looks_clsIn X M).andThen .now;rw[osa_eq,refuse_eq];refine q04 (q04 (J.type.at (q04 (S.at ?_))));rw[mM _ p (PySem.F.store_ValueError.passes _)];refine q05 (q04 (J.type.at (q04 ((looks_findIn X c.no).at (q04 (q05 ?_))))));have j:(a.push {cls:=.type "dict",data:=.dict #[]}).get? x=some ⟨.ref C,none,.fields vs,O⟩:=Ma _ hx;have k:x≠a.objs.size:=Mu (MB hx);show wpAny _ _ (storeInOwnDict (.ref x) (.ref C) (.str name t) name v false) _ _ _;refine q04 (q05 (q04 (q04 (wpAny_loadPart hx ?_))));refine q04 ((looks_clsIn X M).at ?_);rw[q06 (by rw[D];decide)];dsimp only;rw[q06 (by simp[typeHasDict])];refine q04 (wpAny_alloc' ?_);refine q04 (wpAny_update' j ?_);refine q05 ?_;have G:((a.push {cls:=.type "dict",data:=.dict #[]}).update x λo=>{cls:=o.cls,dict:=some a.objs.size,data:=o.data,slots:=o.slots}).get? a.objs.size
   = some {cls:=.type "dict",data:=.dict #[]}:=
  (Heap.get?_update_ne _ _ _ _ k.symm).trans (Heap.get?_push_at rfl rfl)
 have B:((a.push {cls:=.type "dict",data:=.dict #[]}).update x λo=>{cls:=o.cls,dict:=some a.objs.size,data:=o.data,slots:=o.slots}).Ns a.objs.size (λ_=>none):=
  ⟨_,#[],_,G,rfl,λe T=>q0O T (by simp),λ_=>rfl⟩
 show wpAny _ _ (storeInDict a.objs.size (.str name t) name v) _ _ _;unfold storeInDict newKeyGuard;refine q04 (q05 (q04 (wpAny_nsSet1 (Heap.Ns1.of_empty B) λh' l R=>?_)));obtain⟨oD,esD,epD,r,I,L⟩:=l.count (Within.cons name v Within.nil);refine q04 (wpAny_lookBehind r (by rw[I];exact pastItsLine_dict (MG L (by rw[Mm,List.length_nil,q0S];omega))) ?_);refine q05 (h h' _ (λb o U e=>(R.2 b (Mu (MB e))).trans ((Heap.get?_update_ne _ _ _ _ U).trans (Ma _ e))) ?_ l);exact(R.2 x k).trans (Ml _ j rfl)
end
end PySem.W
namespace L2
open PySem PySem.Spec PyProof.Rows
structure BT(K:M6)(C:Addr)(bmB:Na)(newId:String):Prop where
 exc:PySem.W.excOut K C bmB newId=true
set_option tactic.hygienic true in
theorem BT.obj{K:M6}{bmB:Na}{newId:String}(c:BT K C bmB newId)(X:K.In h):∃bm N nm q bs hdct sn sub ab col dd k0 k1 k2 k3 k5,
  h.get? C=some k⁻¹/\OwnTail h bmB bm/\∃dd' cd sl,K.lookup C=some ⟨.type "type",dd',.cls cd,sl⟩/\cd.mro=.ref C::bm:=by
 have q:=c.exc;unfold PySem.W.excOut at q;cases hl:K.lookup C with
 |none=>rw[hl]at q;cases q
 |some ob=>
  rw[hl]at q
  split at q
  ·rename_i dd cd sl e
   cases e
   split at q
   ·rename_i C' bm k0 k1 k2 k3 n k5 hm hs
    simp only[q0M,beq_iff_eq,Bool.not_eq_true']at q;obtain⟨⟨⟨⟨rfl,rfl⟩,hdel⟩,ht⟩,hok⟩:=q;have ho:=X _ _ hl;have hsl:sl=#[k0,k1,k2,k3,some (.builtin n),k5]:=Array.toList_inj.mp hs;subst hsl;obtain⟨nm,bs,mro,ns,qn,hd,sn,sub,ab,col,del⟩:=cd;dsimp only at hm hdel hok ho;subst hm hdel;exact⟨bm,ns,nm,qn,bs,hd,sn,sub,ab,col,dd,k0,k1,k2,k3,k5,ho,PySem.W.tail_of_in X ht,dd,_,_,rfl,rfl⟩
   ·cases q
  ·cases q
def GN(ea:Addr)(cls:Value)(od:Nj)(h:Heap):Prop:=∃o vs,h.get? ea=some o/\o.cls=cls/\o.dict=od/\o.data=.fields vs/\vs[1]?=some .none/\vs[2]?=some .none/\vs.size=6
abbrev xn(ea:Addr)(cls:Value)(od:Nj):HO:=.ext (GN ea cls od)
theorem uk{ea:Addr}{cls:Value}{od:Nj}:∀h1 h2:Heap,GN ea cls od h1->(∀o,h1.get? ea=some o->h2.get? ea=some o)->GN ea cls od h2:=
 λh1 h2 ⟨o,ws,e1,e2,e3,e4,e5⟩ k=>⟨o,ws,k o e1,e2,e3,e4,e5⟩
section
variable {X:Cx}{o value:Expr}{f:Str}{pos pos':Pos}{ta tv:TE}
def EV(K:M6)(ta tv:TE)(f:Str):TS:=λD σ H=>tv σ H λy H1=>ta σ H1 λx H2=>∃a C,x=.ref a/\H2 a=some (xn a (.ref C) none)/\PySem.W.XSt K C f /\
 ∀d,H2 d=none->D.nx σ (aA (aA H2 d (.xd [(f,y)])) a (xn a (.ref C) (some d)))
theorem AJ(ha:PE X o ta)(hv:PE X value tv)(hs:swapsWith value (some (.Attribute o f pos')) pos.line X.env=pure false):PS X (.Assign [.Attribute o f pos'] value pos) (EV X.K ta tv f):=by
 intro j s σ H D I h;refine plainObj_wpAny_Assign_Attribute (bV (hv j s σ H _ I h) λu S ⟨y,H1,I1,T,q⟩=>bV (ha j S σ H1 _ I1 q) λov l ⟨x,L,r,U,a,C,ex,M,c,Y⟩=>?_) hs;subst ex;obtain rfl:ov=Value.ref a:=U;obtain⟨⟨n,R,J,O,e3,G,e5⟩,_,_⟩:=(show bX X.prog X.w L l.heap a (xn a (.ref C) none) from r.hok a _ M);refine PySem.W.set_new r.kIn c J O e3 G λh' t' hk p hn=>?_;have B:L l.heap.objs.size=none:=r.hok.fresh (My _);have m:l.heap.objs.size≠a:=Nat.ne_of_gt (MB J);have Z:(h'.update a λ_=>n).get? a=some n:=Ml _ p (Obj.isFreed_of_fields G);have v:∀b,b≠a->(h'.update a λ_=>n).get? b=h'.get? b:=λb k=>Mf _ _ (Ne.symm k);have I3:Inv X j σ (aA L l.heap.objs.size (.xd [(f,y)])) {l with heap:=h'.update a λ_=>n,toks:=t' }:=r.laid (λb u z=>by
   by_cases k:b=a
   ·subst k;rw[J]at z;cases z;exact Z
   ·rw[v b k];exact hk b u k z) (My _) ⟨_,hn.at λo z=>(v _ m).trans z,λg=>?_⟩
 ·have I4:=I3.write (x:=a) (e:=a) (o:=xn a (.ref C) (some l.heap.objs.size)) (h':=h') (t':=t') (by rw[ao (Ne.symm m),M];exact True.intro) (.inl rfl) (λb u k z=>by rw[<- v b k];exact z) ⟨_,p⟩ ⟨⟨_,R,p,O,rfl,G,e5⟩,⟨_,p⟩,uk⟩
  exact⟨σ,_,I4,Y _ B⟩
 ·show kr (List.lookup g [(f,y)]) (if g=f then some u else none)
  by_cases z:g=f
  ·have k:(g==f)=true:=beq_iff_eq.mpr z
   simp only[List.lookup,k,q07 z];exact T
  ·have k:(g==f)=false:=beq_eq_false_iff_ne.mpr z
   simp only[List.lookup,k,q06 z];exact True.intro
end
def mU(C:Addr)(fn:Str):Sp:=λvs H Q _=>∃a v,vs=[.ref a,v]/\H a=some (xn a (.ref C) none)/\∀d,H d=none->Q .non (aA (aA H d (.xd [(fn,v)])) a (xn a (.ref C) (some d)))
def va(H:Hp)(e:Addr):Hp:=λb=>if b=e then none else H b
theorem gm{e b:Addr}(h:b≠e):va H e b=H b:=by unfold va;rw[q06 h]
theorem kO:va H e e=none:=by unfold va;rw[q07 rfl]
def D0(X:Cx)(E:XK):Prop:=∀(pins:M7) (σ:St) (H2:Hp) (s2:M9) (hm:Heap) (H3:Hp) (s3:M9) (e C:Addr) (od:Nj),Inv X pins σ H2 s2->Inv X pins σ H3 s3->s2.heap.get? e=none ->
 (∀b o,s2.heap.get? b=some o->hm.get? b=some o)->Un (nI X.stack) [] (aA H2 e (xn e (.ref C) none)) H3 hm s3.heap->s3.os=s2.os->H3 e=some (xn e (.ref C) od)->E (.ref C) od (va H3 e)->X.xe (.ref e) s3
section
variable {P:Nf}{w:Ni}{K:M6}{mg:Nc}{base:Heap}{N:Ng}{qual:Str}{scope:Scope}{f:Addr}{cd:Value}{A:Nh}{outer:List Env}{s:M9}{H:Hp}{E E1:XK}
theorem eW(hE:∀c d H',E1 c d H'->E c d H'):D0 (gO (bN P w) P w K mg base N qual scope f cd A outer s H E) E1:=by
 intro pins σ H2 s2 r H3 s3 e C od I2 I3 new keep un os3 he3 q;obtain⟨⟨oe,vs,U,T,S,R,J⟩,_,_⟩:=(show bX P w H3 s3.heap e (xn e (.ref C) od) from I3.hok e _ he3);have ne:∀b o,s2.heap.get? b=some o->b≠e:=λb o z y=>by rw[y,new]at z;cases z
 have k:H2 e=none:=by
  cases z:H2 e with
  |none=>rfl
  |some o=>
   obtain⟨I,j⟩:=(I2.hok e o z).there;rw[new]at j;cases j
 have B:∀l∈(gO (bN P w) P w K mg base N qual scope f cd A outer s H E).stack,∀b,l.frame=some b->b∈e::nI (gO (bN P w) P w K mg base N qual scope f cd A outer s H E).stack:=λl O b a=>.tail _ (List.mem_filterMap.mpr ⟨l,O,a⟩);have D:=PySem.W.funFrames_hide I3.stack B;have u:∀b,b≠e->H2 b=none->aA H2 e (xn e (.ref C) none) b=none:=λb a n=>by rw[ao a];exact n
 have g:Fly0 P w (gO (bN P w) P w K mg base N qual scope f cd A outer s H E).stack H2 s2 (PySem.W.hideAll s3.heap (e::nI (gO (bN P w) P w K mg base N qual scope f cd A outer s H E).stack)) (va H3 e) s3:=by
  refine⟨λb o z=>PySem.W.of_hideAll _ z,D,⟨λb o z n a _=>un.keep b o (keep b o z) (u b (ne b o z) n) a (by simp),λb o z n a _=>un.slot b o (keep b o z) (u b (ne b o z) n) a (by simp),λb o z n _=>?_,λb o z _=>un.there b o (keep b o z) (by simp),λb G z=>?_,λb o y z=>?_,λb ps z=>?_⟩,λb o z=>?_,λb o z=>?_,λb o z a=>?_,os3,I3.bare⟩
  ·rw[gm (ne b o z)]
   exact un.free b o (keep b o z) (u b (ne b o z) n) (by simp)
  ·have a:b≠e:=aG z k
   rw[gm a];exact un.tups b G (by rw[ao a];exact z)
  ·have a:b≠e:=aG z k
   rw[gm a];exact un.frzs b o y (by rw[ao a];exact z)
  ·have a:b≠e:=aG z k
   rw[gm a];exact un.tbls b ps (by rw[ao a];exact z)
  ·have a:b≠e:=λy=>by rw[y,kO]at z;cases z
   rw[gm a]at z;exact(I3.hok b o z).stay (λ_ _ _ y=>y) (λc y=>by rw[gm (λx=>by rw[x,he3]at y;cases y)];exact y) λc G y=>by rw[gm (λx=>by rw[x,he3]at y;cases y)];exact y
  ·have a:b≠e:=λy=>by rw[y,kO]at z;cases z
   rw[gm a]at z;obtain⟨I,j⟩:=(I3.hok b o z).there;refine⟨I,PySem.W.hideAll_get _ j λr=>?_⟩;rcases Mq.mp r with y | y
   ·exact a y
   ·rw[I3.stkFree b y]at z;cases z
  ·obtain⟨M,L⟩:=un.there b o (keep b o z) (by simp)
   refine⟨M,PySem.W.hideAll_get _ L λr=>?_⟩;rcases Mq.mp r with y | y
   ·exact ne b o z y
   ·exact a y
 have m:(PySem.W.hideAll s3.heap (e::nI (gO (bN P w) P w K mg base N qual scope f cd A outer s H E).stack)).get? e=none:=PySem.W.hideAll_none _ (q0B ..);refine Ah (cp:=λv=>v=.none) (s:=s3) I3.ok.frames g.ff rfl U g.st m R J.1 ⟨_,J.2.1,rfl⟩ λh' p up=>?_;rw[T,S]at p;exact⟨e,.ref C,od,_,va H3 e,rfl,Fly0.up I2 rfl rfl rfl rfl rfl g p up,kO,hE _ _ _ q⟩
end
structure XI(P:Nf)(w:Ni)(K:M6)(mg:Nc)(base:Heap)(k:Nat)(C:Addr)(fn:Str):Prop where
 ex:∃(bm bmN:Na) (newId Bn inN B nid initId:String) (fI:Addr) (fd:Nd) (ps:Ng),BT K C bm newId/\ExcBaseFacts Bn newId inN bmN/\bm.contains (.type Bn)=true/\ExcBaseFacts B nid initId bm /\
  PySem.W.findIn K (.ref C) "__init__"=some (some (.ref fI))/\PySem.W.typeIn K (.ref fI)=some (.type "function")/\↑aT k fI fd ps (mU C fn)/\bR K fd ps []
section
variable {X:Cx}{x:Str}{np cpos pos:Pos}{e₀:Expr}{t:TA}{C:Addr}{fn:Str}{k:Nat}{E:XK}
def uM(C:Addr)(fn:Str)(E:XK)(t:TA):TS:=λ_ σ H=>t σ H λvs H1=>vs.length<=sizeLine/\∃v,vs=[v]/\∀d,H1 d=none->E (.ref C) (some d) (aA H1 d (.xd [(fn,v)]))
theorem eX(c:XI X.prog X.w X.K X.mg X.base k C fn)(hr:dh (k+1) X.A)(hc:X.calm=true)(hg:Gl X x)(hm:X.mg x=some (.ref C))(hx:D0 X E)(ha:PA X [e₀] t)
  (hd:autoParam j⁻¹ zz2._auto_1) (he:autoParam (starEach [e₀] X.env=(false,eval e₀ X.env)::starEach [] X.env) zz0._auto_1) (hpl:autoParam ((backTo cpos (starEach [] X.env)).any (·.1)=false) zz0._auto_1) :
  PS X (.Raise (some (.Call (.Name x np) [e₀] [] cpos)) none pos) (uM C fn E t):=by
 obtain⟨bmB,bmN,newId,Bn,inN,B,nid,initId,fI,fd,ps,c1,c2,c3,c4,hi,hf,F,p⟩:=c.ex;intro j s σ H D I h;obtain⟨tl,N,nm,q,bs,hdct,sn,sub,ab,col,dd,k0,k1,k2,k3,k5,hC,T,_⟩:=c1.obj I.mod.kin;refine on (K:=X.K) (fI:=fI) (C:=C) (nm:=nm) (q:=q) (N:=N) (bs:=bs) (bm:=tl) (hdct:=hdct) (sn:=sn) (sub:=sub) (ab:=ab) (col:=col) (dd:=dd) (k0:=k0) (k1:=k1) (k2:=k2) (k3:=k3) (k5:=k5)
  c2 c3 c4 (T.hasType c4.hasBase) (I.ok.hd hc) (by rw[he];show(false||(backTo cpos (starEach [] X.env)).any (·.1))=false;rw[hpl];rfl) hi hf (kK I hg hm ⟨rfl,?_⟩ hd)
 rw[he];have a2:=ha cpos j s σ H _ I h;rw[he]at a2;refine Calls.evalArgs_plain (q0T a2 (λus s₂ ⟨vs,M,G,r1,z,v,ev,q1⟩=>⟨rfl,by rw[<- r1.length];exact z,G.bk _ _ hC,G.kIn,T.keeps G.bk,λh' e a=>?_⟩) λ_ _ y=>y);subst ev;obtain⟨u,rfl,ru⟩:=r1.one;obtain⟨t0,a0,ht0,htt⟩:=a.there;have ne:∀b o,s₂.heap.get? b=some o->b≠e:=λb o z y=>by rw[y,a.new]at z;cases z
 have g:M e=none:=by
  cases z:M e with
  |none=>rfl
  |some o=>
   obtain⟨ob,Y⟩:=(G.hok e o z).there;rw[a.new]at Y;cases Y
 have Im:Inv X j σ (aA M e (xn e (.ref C) none)) {s₂ with heap:=h' }:=by
  refine G.call' (s':={s₂ with heap:=h' }) (ch:=[]) rfl ⟨λb o z _ _ _=>a.keeps b o z,λb o z _ _ _=>⟨o.slots,a.keeps b o z⟩,λb o z n _=>by rw[ao (ne b o z)];exact n,λb o z _=>⟨o,a.keeps b o z⟩,λb xs z=>by rw[ao (aG z g)];exact z,λb o y z=>by rw[ao (aG z g)];exact z,λb ps z=>⟨#[],by rw[ao (aG z g),z];simp⟩⟩ (λb o z=>?_) G.bare (λb z=>q0O z (by simp))
  by_cases p:b=e
  ·subst p
   rw[ad]at z;cases z;exact⟨⟨_,_,a0,rfl,rfl,rfl,rfl,rfl,rfl⟩,⟨_,a0⟩,uk⟩
  ·rw[ao p]at z
   exact(G.hok b o z).stay (λc u _ y=>a.keeps c u y) (λc y=>by rw[ao (aG y g)];exact y) λc xs y=>by rw[ao (aG y g)];exact y
 have S:mU C fn [.ref e,v] (aA M e (xn e (.ref C) none)) (λr H3=>r=.non/\∃d,H3 e=some (xn e (.ref C) (some d))/\E (.ref C) (some d) (va H3 e)) (λ_ _ _=>False):=by
  refine⟨e,v,rfl,ad,λd m=>⟨rfl,d,ad,?_⟩⟩;have a1:d≠e:=λy=>by rw[y,ad]at m;cases m
  rw[ao a1]at m;have ee:va (aA (aA (aA M e (xn e (.ref C) none)) d (.xd [(fn,v)])) e (xn e (.ref C) (some d))) e=aA M d (.xd [(fn,v)]):=by
   funext b
   by_cases p:b=e
   ·rw[p,kO,ao (Ne.symm a1)];exact g.symm
   ·rw[gm p,ao p]
    by_cases J:b=d
    ·rw[J,ad,ad]
    ·rw[ao J,ao p,ao J]
  rw[ee];exact q1 d m
 have hl:([Value.ref e,u]++[]).length=ps.length:=(F.len _ _ _ _ S:[V.ref e,v].length=ps.length);have r2:bd [V.ref e,v] [Value.ref e,u]:=.cons rfl (.cons ru .nil);refine wpAny_call (codeAny_mono (F.run _ X.stack _ _ ⟨[.ref e,u],[]⟩ [.ref e,u] _ _ _ (hr.make C [u] []) (Im.env0.make C [u] []) (p _ [Value.ref e,u] Im.kIn hl) r2 S) λr s' l=>?_);cases r with
 |error ev=>exact False.elim l
 |ok fl=>
  cases fl with
  |ret u'=>
   obtain⟨v',H3,R,L,O,U,rv,ev,d,Z,qE⟩:=l;subst ev;have I3:=Im.call' (ch:=[]) R O U L (λb z=>q0O z (by simp));obtain⟨⟨oe,ws,g1,g2,g3,g4,g5⟩,_,_⟩:=(show bX X.prog X.w H3 s'.heap e (xn e (.ref C) (some d)) from I3.hok e _ Z);exact⟨rv,oe,ws,I3.bk _ _ hC,g1,g2,g4,g5.1,hx j σ M s₂ h' H3 s' e C (some d) G I3 a.new a.keeps O R Z qE⟩
  |next=>exact False.elim l
  |brk=>exact False.elim l
  |cont=>exact False.elim l
end
end L2
namespace PySem.W
open PySem PySem.Spec PySem.Calls PyProof.Rows
end PySem.W
namespace SpM
open PySem
def step(c:Nat)(rows:List (List Nat))(d:Nat):List (List Nat):=if d=c then rows++[[]] else rows.dropLast++[rows.getLastD []++[d]]
def CQ(c:Nat)(x:M8):List (List Nat):=x.foldl (step c) [[]]
theorem qM(c:Nat){n:Nat}{rows:List (List Nat)}(h:∀r∈rows,r.length<=n)(d:Nat):∀r∈step c rows d,r.length<=n+1:=by
 intro r hr;unfold step at hr
 split at hr
 ·rcases Mo.mp hr with q | q
  ·exact Nat.le_succ_of_le (h r q)
  ·rw[Mc.mp q];simp
 ·rcases Mo.mp hr with q | q
  ·exact Nat.le_succ_of_le (h r (List.dropLast_subset _ q))
  ·rw[Mc.mp q,Mx]
   have:(rows.getLastD []).length<=n:=by
    by_cases e:rows=[]
    ·rw[e];simp
    ·have a:rows.getLastD []∈rows:=by
      rw[List.getLastD_eq_getLast?,List.getLast?_eq_some_getLast e];exact List.getLast_mem e
     exact h _ a
   simpa using this
theorem Cq(c:Nat)(rows:List (List Nat))(d:Nat):(step c rows d).length<=rows.length+1:=by
 unfold step
 split
 ·simp
 ·rw[Mx,List.length_dropLast];simp
theorem mS(c:Nat):∀(x:M8) (rows:List (List Nat)) (n:Nat),(∀r∈rows,r.length<=n)->(∀r∈x.foldl (step c) rows,r.length<=n+x.length)/\(x.foldl (step c) rows).length<=rows.length+x.length
 | [],rows,n,h=>⟨by simpa using h,by simp⟩
 |d::x,rows,n,h=>by
  obtain⟨h1,h2⟩:=mS c x (step c rows d) (n+1) (qM c h d);have h3:=Cq c rows d;refine⟨λr hr=>?_,?_⟩
  ·have:=h1 r hr;simp only[Mm];omega
  ·rw[List.foldl_cons];simp only[Mm];omega
theorem nE(c:Nat)(x:M8):(∀r∈CQ c x,r.length<=x.length)/\(CQ c x).length<=1+x.length:=by
 have:=mS c x [[]] 0 (by simp);unfold CQ;simpa using this
end SpM
namespace PyProof.Rows
open PySem PySem.Spec PySem.Builtin PySem.Builtin.Str
end PyProof.Rows
namespace L2
open PySem PySem.Spec PyProof.Rows QL
structure ED(K:M6)(C:Addr)(m:Str)(f:Addr):Prop where
 sp:PySem.W.specialIn K (.ref C) "__getattribute__"=some (some (.builtin "type.__getattribute__"))
 rd:PySem.W.readsIn K C (.type "type")=true
 fi:PySem.W.findCls K (.ref C) (.type "type") m=some (.val (.ref f))
 kp:PySem.W.keepIn K (.ref f)=true
section
variable {X:Cx}{CX:kT}{k:Nat}{f C:Addr}{fd:Nd}{ps:Ng}{sp:Sp}{E:XK}{x m:Str}{p pos apos:Pos}{e:Expr}{es:Nk}{t:TA}
theorem D'{pl:Sem Bool}(c:ED X.K C m f)(F:aT X.prog X.w X.K X.mg X.base CX k f fd ps sp)(hr:dh k X.A)(hg:Gl X x)(hm:X.mg x=some (.ref C))(hb:bR X.K fd ps [])(hx:dz CX X E)(ha:PA X (e::es) t)
  (hdb:autoParam j⁻¹ zz2._auto_1) (hst:autoParam (starEach (e::es) X.env=(false,eval e X.env)::starEach es X.env) zz0._auto_1) (hpl:autoParam h⁻¹ zz0._auto_1)
  (ht:autoParam (eval (.Call (.Attribute (.Name x p) m apos) (e::es) [] pos) X.env=(do
   let ov <- eval (.Name x p) X.env
   standAt apos.atName
   let (f,first) <- holding [ov] (getMethod ov m pl)
   callWith pos f first (backTo pos (starEach (e::es) X.env)) (backToKw pos (keywordEach [] X.env)))) zz0._auto_1) :
  PE X (.Call (.Attribute (.Name x p) m apos) (e::es) [] pos) (oQ sp [] E t):=by
 intro a s σ H Q I h;refine PySem.W.methodCall_KW (pl:=pl) (kK I hg hm ?_ hdb) ht;refine PySem.W.method_cls I.kIn c.sp (PySem.W.cls_value I.kIn c.rd c.fi rfl ?_);have j:=I.tok (s.toks+1);refine PySem.W.callWith_K (first:=[]) (h₀:=X.base) I.ok.mod.kin c.kp (bV (ha pos a _ σ H _ j h) λus s2 ⟨vs,H2,b,r,g⟩=>⟨b.kIn,?_⟩) hst hpl;exact nM F hr hb .nil hx b r g
end
section
variable (P:Nf)(w:Ni)(K:M6)(mg:Nc)(base:Heap)(CX:kT)
structure AW(k:Nat)(x m:Str)(ps:Ng)(sp:Sp):Prop where
 ex:∃(C f:Addr) (fd:Nd),aT P w K mg base CX k f fd ps sp/\mg x=some (.ref C)/\ED K C m f/\bR K fd ps []
structure lu(k:Nat)(x:Str)(C:Addr)(ps:Ng)(sp:Sp):Prop where
 ex:∃(f:Addr) (fd:Nd),aT P w K mg base CX k f fd ps sp/\mg x=some (.ref C)/\Mk K C f/\bR K fd ps []
structure b0(k:Nat)(C:Addr)(m:Str)(ps:Ng)(sp:Sp):Prop where
 ex:∃(f:Addr) (fd:Nd),aT P w K mg base CX k f fd ps sp/\mG K C/\cT K C m f/\bR K fd ps []
end
section
variable {X:Cx}{CX:kT}{k:Nat}{C:Addr}{ps:Ng}{sp:Sp}{E:XK}{x m:Str}{p pos apos:Pos}{e o:Expr}{es:Nk}{t:TA}{ta:TE}
theorem pS{pl:Sem Bool}(c:AW X.prog X.w X.K X.mg X.base CX k x m ps sp)(hr:dh k X.A)(hg:Gl X x)(hx:dz CX X E)(ha:PA X (e::es) t)
  (hdb:autoParam j⁻¹ zz2._auto_1) (hst:autoParam (starEach (e::es) X.env=(false,eval e X.env)::starEach es X.env) zz0._auto_1) (hpl:autoParam h⁻¹ zz0._auto_1)
  (ht:autoParam (eval (.Call (.Attribute (.Name x p) m apos) (e::es) [] pos) X.env=(do
   let ov <- eval (.Name x p) X.env
   standAt apos.atName
   let (f,first) <- holding [ov] (getMethod ov m pl)
   callWith pos f first (backTo pos (starEach (e::es) X.env)) (backToKw pos (keywordEach [] X.env)))) zz0._auto_1) :
  PE X (.Call (.Attribute (.Name x p) m apos) (e::es) [] pos) (oQ sp [] E t):=by
 obtain⟨C,f,fd,F,a,g,b⟩:=c.ex;exact D' g F hr hg a b hx ha hdb hst hpl ht
theorem gw(c:lu X.prog X.w X.K X.mg X.base CX k x C ps sp)(hr:dh (k+1) X.A)(hg:Gl X x)(hx:dz CX X E)(ha:PA X (e::es) t)
  (hdb:autoParam j⁻¹ zz2._auto_1) (hst:autoParam (starEach (e::es) X.env=(false,eval e X.env)::starEach es X.env) zz0._auto_1) (hpl:autoParam h⁻¹ zz0._auto_1) :
  PE X (.Call (.Name x p) (e::es) [] pos) (As C sp [] E t):=by
 obtain⟨f,fd,F,a,M,b⟩:=c.ex;exact FT M F hr hg a b .nil hx ha hdb hst hpl
theorem bP{pl:Sem Bool}(c:b0 X.prog X.w X.K X.mg X.base CX k C m ps sp)(hr:dh k X.A)(hx:dz CX X E)(he:PE X o ta)(ha:PA X (e::es) t)
  (hst:autoParam (starEach (e::es) X.env=(false,eval e X.env)::starEach es X.env) zz0._auto_1) (hpl:autoParam h⁻¹ zz0._auto_1)
  (ht:autoParam (eval (.Call (.Attribute o m apos) (e::es) [] pos) X.env=(do
   let ov <- eval o X.env
   standAt apos.atName
   let (f,first) <- holding [ov] (getMethod ov m pl)
   callWith pos f first (backTo pos (starEach (e::es) X.env)) (backToKw pos (keywordEach [] X.env)))) zz0._auto_1) :
  PE X (.Call (.Attribute o m apos) (e::es) [] pos) (tY C m sp [] E ta t):=by
 obtain⟨f,fd,F,g,a,b⟩:=c.ex;exact F7 he g a F hr b .nil hx ha hst hpl ht
theorem EC{pl:Sem Bool}(c:b0 X.prog X.w X.K X.mg X.base CX k C m ps sp)(hr:dh k X.A)(hx:dz CX X E)(he:PE X o ta)
  (ht:autoParam (eval (.Call (.Attribute o m apos) [] [] pos) X.env=(do
   let ov <- eval o X.env
   standAt apos.atName
   let (f,first) <- holding [ov] (getMethod ov m pl)
   callWith pos f first (backTo pos (starEach [] X.env)) (backToKw pos (keywordEach [] X.env)))) zz0._auto_1) :
  PE X (.Call (.Attribute o m apos) [] [] pos) (tY C m sp [] E ta sS):=by
 obtain⟨f,fd,F,e,a,b⟩:=c.ex;exact C_ he e a F hr b .nil hx ht
end
section
variable {g:TG}{ti:TT}{te:TE}{σ:St}{H:Hp}{Q:List V->Hp->Prop}
theorem CZ{x:Str}(Pv:Nat->List V->St->Hp->Prop)(h0:Pv 0 [] σ H)(hz:∀i acc σ H,Pv i acc σ H->acc.length<sizeLine)(hi:∀i acc σ H,Pv i acc σ H->i<=x.cps.size)
  (hs:∀i c acc σ H,x.cps[i]?=some c->Pv i acc σ H->g (.str ⟨#[c]⟩) σ H λσ2 H3=>ti σ2 H3 λb H4=>if b=true then te σ2 H4 λv H5=>Pv (i+1) (acc++[v]) σ2 H5 else Pv (i+1) acc σ2 H4)
  (he:∀acc σ H,Pv x.cps.size acc σ H->Q acc H):iK (Iw x) g ti te σ H Q:=by
 exact jt (J:=Iw x) (g:=g) (ti:=ti) (te:=te) (Q:=Q) (n:=x.cps.size) Pv h0 hz hi (λacc σ H w=>My _) (λi acc σ H hlt w=>hlt)
  (λi v acc σ H H2 hlt w y=>by obtain⟨rfl,c,a,rfl⟩:=y;exact hs i c acc σ H2 a w) he
end
section
variable (P:Nf)(w:Ni)(K:M6)(mg:Nc)(base:Heap)(CX:kT)
structure pG(k:Nat)(m:Str)(os:List (Addr×Sp)):Prop where
 ex:∀o∈os,∃ps,b0 P w K mg base CX k o.1 m ps o.2
end
def wa(m:Str)(os:List (Addr×Sp))(E:XK)(ta:TE)(t:TA):TE:=λσ H Q=>ta σ H λx H1=>∃o∈os,∃a dx fs,x=.ref a/\H1 a=some (.ins o.1 dx fs)/\fs.lookup m=none /\
 t σ H1 λvs H2=>o.2 (x::(vs++[])) H2 Q E
section
variable {X:Cx}{CX:kT}{k:Nat}{os:List (Addr×Sp)}{E:XK}{m:Str}{pos apos:Pos}{e o:Expr}{es:Nk}{t:TA}{ta:TE}
theorem Ae{pl:Sem Bool}(c:pG X.prog X.w X.K X.mg X.base CX k m os)(hr:dh k X.A)(hx:dz CX X E)(he:PE X o ta)(ha:PA X (e::es) t)
  (hst:autoParam (starEach (e::es) X.env=(false,eval e X.env)::starEach es X.env) zz0._auto_1) (hpl:autoParam h⁻¹ zz0._auto_1)
  (ht:autoParam (eval (.Call (.Attribute o m apos) (e::es) [] pos) X.env=(do
   let ov <- eval o X.env
   standAt apos.atName
   let (f,first) <- holding [ov] (getMethod ov m pl)
   callWith pos f first (backTo pos (starEach (e::es) X.env)) (backToKw pos (keywordEach [] X.env)))) zz0._auto_1) :
  PE X (.Call (.Attribute o m apos) (e::es) [] pos) (wa m os E ta t):=by
 intro b s σ H Q I h;refine PySem.W.methodCall_KW (pl:=pl) (bV (he b s σ H _ I h) λu p ⟨x,L,n,v,y,B,a,dx,fs,ex,D,l,q⟩=>?_) ht;subst ex;obtain rfl:u=Value.ref a:=v;obtain⟨ps,G⟩:=c.ex y B;obtain⟨f,fd,F,J,g,C⟩:=G.ex;refine gG n D J g l ?_;refine PySem.W.callWith_K (first:=[.ref a]) (h₀:=X.base) I.ok.mod.kin g.kp (bV (ha pos b p σ L _ n q) λus s2 ⟨vs,H2,j,r,w⟩=>⟨j.kIn,?_⟩) hst hpl;exact nM (us:=.ref a::us) (vs:=.ref a::vs) F hr C .nil hx j (.cons rfl r) w
theorem xo{pl:Sem Bool}(c:pG X.prog X.w X.K X.mg X.base CX k m os)(hr:dh k X.A)(hx:dz CX X E)(he:PE X o ta)
  (ht:autoParam (eval (.Call (.Attribute o m apos) [] [] pos) X.env=(do
   let ov <- eval o X.env
   standAt apos.atName
   let (f,first) <- holding [ov] (getMethod ov m pl)
   callWith pos f first (backTo pos (starEach [] X.env)) (backToKw pos (keywordEach [] X.env)))) zz0._auto_1) :
  PE X (.Call (.Attribute o m apos) [] [] pos) (wa m os E ta sS):=by
 intro b s σ H Q I h;refine PySem.W.methodCall_KW (pl:=pl) (bV (he b s σ H _ I h) λu s1 ⟨x,H1,e,j,n,p,a,dx,fs,ex,v,l,q⟩=>?_) ht;subst ex;obtain rfl:u=Value.ref a:=j;obtain⟨ps,w⟩:=c.ex n p;obtain⟨f,fd,F,y,g,r⟩:=w.ex;refine gG e v y g l ?_;exact PySem.W.callWith_K0 (first:=[.ref a]) e.kIn g.kp (nM (us:=[.ref a]) (vs:=[.ref a]) F hr r .nil hx e (.cons rfl .nil) q)
end
structure fQ(K:M6)(C:Addr):Prop where
 cl:mG K C
 ha:PySem.W.findIn K (.ref C) "__class__"=some (some f⁻¹)
 hn:PySem.W.specialIn K f⁻¹ "__get__"=some (some (.builtin "getset_descriptor.__get__"))
 htk:PySem.W.takesIn K f⁻¹=some true
 hm:PySem.W.mroIn K C (.type "object")=some true
theorem fQ.ty{K:M6}{H:Hp}{fs:List (Str×V)}(i:fQ K C)(e:H a=some (.ins C dx fs)):k9 K H (.ref a) (.ref C):=.ins e i.cl i.ha i.hn i.htk i.hm
section
variable {X:Cx}{es:Nk}{t:TA}
theorem bH{x j p}(hr:PA X es t):PA X (.Constant (.str x) j p::es) (lO (tC (.str x)) t):=aa mr hr rfl
theorem bx{x j p}(hr:PA X es t):PA X (.Constant (.int x) j p::es) (lO (tC (.int x)) t):=aa ah hr rfl
end
end L2
namespace PyProof.Rows
open PySem PySem.Spec PySem.Builtin PySem.Builtin.Str
end PyProof.Rows
namespace L2
open PySem PySem.Spec PyProof.Rows QL
theorem AC:∀(xs:List V) (us:Na),xs.length=us.length->(∀(j:Nat) (x:V) (u:Value),xs[j]?=some x->us[j]?=some u->bi x u)->bd xs us
 | [],[],_,_=>.nil
 |x::xs,u::us,hl,h=>.cons (h 0 x u rfl rfl) (AC xs us (by simpa using hl) λj y v e1 e2=>h (j+1) y v (by simpa using e1) (by simpa using e2))
section
variable {X:Cx}
def yj:List V->Hp->VK->Prop:=λxs H Q=>∃z,xs=[.str z]/\z.length<=sizeLine/\∀l,H l=none->Q (.ref l) (aA H l (.lst (z.cps.toList.map λc=>V.str ⟨#[c]⟩)))
theorem zq(hc:X.calm=true):gQ X (.type "list") yj:=by
 intro pins s σ H xs us Q I r h;obtain⟨z,rfl,l,q⟩:=h;obtain⟨u,rfl,t,rfl⟩:=rP r;refine PySem.call_list_str (hn:=l) (I.ok.hd hc) z t λh' m b B p v a=>?_;have n:bd (z.cps.toList.map λc=>V.str ⟨#[c]⟩) b.toList:=by
  refine AC _ _ (by rw[Mb];simp[a.1]) λj x u k y=>?_;obtain⟨c,tk2,g,rfl⟩:=a.2 j u (by simpa using y);rw[Md]at k;have w:z.cps.toList[j]?=some c:=by simpa using g
  rw[w]at k;cases k;exact⟨_,rfl⟩
 have o:(z.cps.toList.map λc=>V.str ⟨#[c]⟩).length<=sizeLine:=by
  rw[Mb];have e:z.cps.toList.length=z.length:=by show z.cps.toList.length=z.cps.size;simp
  rw[e];exact l
 exact⟨.ref s.heap.objs.size,aA H s.heap.objs.size (.lst (z.cps.toList.map λc=>V.str ⟨#[c]⟩)),I.laid (t':=m) p (My _) ⟨o,b.toList,B,n,by simpa using v⟩,rfl,q _ (I.hok.fresh (My _))⟩
end
section
variable {X:Cx}{pins:M7}{σ:St}{H:Hp}{s:M9}{a:Addr}{kvs:List (c8×V)}{k:c8}{u r:Value}{d:V}{A:Nh}{E:M5}
theorem DQ{Q:M5}(I:Inv X pins σ H s)(e:H a=some (.dK kvs))(ry:bi (kV k) u)(rd:bi d r)(hl:kvs.length<sizeLine)
  (h1:∀v w' s',cn kvs k=some v->Inv X pins σ H s'->bi v w'->Q w' s') (h2:cn kvs k=none->∀s',Inv X pins σ (aA H a (.dK (cF kvs k d))) s'->Q r s') :
  wpAny c⁻¹ A (call (.builtin "dict.setdefault") [.ref a,u,r]) Q E s:=by
 obtain⟨z,l,vs,c,m⟩:=Dx I.hok e;have n:vs.length<=sizeLine:=by rw[<- c.length];exact z
 have j:(cF kvs k d).length<=sizeLine:=by have:=hJ kvs k d;omega
 refine call_meetsIn PySem.F.slot_dict_setdefault m.typeIs PySem.F.entry_dict_setdefault (PySem.F.args_dict_setdefault_3 _ _ _) (kt_meets_setdefault (cI X.prog X.w) a (tD ry) l r) ⟨vs,m,n,λv o=>?_,λx B g p=>?_⟩
 ·have q:=c.val k
  rw[o]at q;cases b:cn kvs k with
  |none=>rw[b]at q;exact False.elim q
  |some v0=>rw[b]at q;exact h1 v0 v _ b (I.tok _) q
 ·have q:=c.val k
  rw[x]at q;have b:cn kvs k=none:=by
   cases b:cn kvs k with
   |none=>rfl
   |some v0=>rw[b]at q;exact False.elim q
  have y:∃q,B.get? a=some q:=let ⟨q,_,_,hq,_⟩:=g;⟨q,hq⟩
  exact h2 b _ (pT I (by rw[e];exact True.intro) p y (zu j l (c.put k rd) g))
end
def wW(td ty tx:TE):TE:=λσ H Q=>td σ H λx H1=>∃a,x=.ref a/\JR H1 a/\ty σ H1 λy H2=>tx σ H2 λz H3=>∃kvs k,H3 a=some (.dK kvs)/\y=kV k/\kvs.length<sizeLine /\
 (∀v,cn kvs k=some v->Q v H3)/\(cn kvs k=none->Q z (aA H3 a (.dK (cF kvs k z))))
section
variable {X:Cx}{o e f:Expr}{apos cpos:Pos}{td ty tx:TE}
theorem q9(ho:PE X o td)(he:PE X e ty)(hf:PE X f tx)(m:M2 X o "setdefault" apos e f cpos):PE X (.Call (.Attribute o "setdefault" apos) [e,f] [] cpos) (wW td ty tx):=by
 intro b s σ H Q I h;refine wpAny_Call_method m.base m.few m.line PySem.F.plainAttrs_dict PySem.F.slot_dict_setdefault PySem.F.type_dict_setdefault (bV (ho b s σ H _ I h) λu w ⟨x,H1,l,C,a,U,d,J⟩=>?_);subst U;obtain rfl:u=Value.ref a:=C;obtain⟨p,n,_⟩:=HD l d;refine⟨p,n,?_⟩;rw[m.trees];refine Calls.callWith_builtin rfl (Calls.evalArgs_plain (Calls.spliced_cons (bV (he b w σ H1 _ l J) λiv r ⟨y,H2,Z,B,G⟩=>
  Calls.spliced_cons (bV (hf b r σ H2 _ Z G) λfv s3 ⟨z,H3,Y,j,kvs,k,O,T,c,S,R⟩=>Calls.spliced_nil ?_))))
 subst T;exact DQ Y O B j c (λv w' q L g D=>⟨v,H3,g,D,S v L⟩) λM q g=>⟨z,_,g,j,R M⟩
end
section
variable {K:Type}[DecidableEq K]
def fj(σ:List K)(v:K):List K:=if v∈σ then σ else σ++[v]
def met(l:List K):List K:=l.foldl fj []
theorem xf(σ:List K)(v k:K):decide (k∈fj σ v)=(decide (k∈σ)||decide (k=v)):=by
 unfold fj
 by_cases h:v∈σ
 ·rw[q07 h]
  by_cases e:k=v
  ·subst e;simp[h]
  ·simp[e]
 ·rw[q06 h]
  simp[Mo]
theorem oP(σ:List K)(v:K):(fj σ v).length=if decide (v∈σ) then σ.length else σ.length+1:=by
 unfold fj
 by_cases h:v∈σ<;>simp[h]
theorem wP(l:List K)(v:K):met (l++[v])=fj (met l) v:=by unfold met;rw[List.foldl_append];rfl
theorem Am:∀(l σ:List K),(l.foldl fj σ).length<=σ.length+l.length
 | [],σ=>My _
 |v::l,σ=>by
  have h:=Am l (fj σ v);have e:=oP σ v;rw[List.foldl_cons,Mm]
  split at e<;>omega
theorem Ei(n:Nat)(l:List K)(h:l.length=n):(met l).length<=n:=by
 have:=Am l [];rw[<- h];unfold met;simpa using this
end
section
variable {prog:Nf}{w:Ni}{K:Type}[DecidableEq K]{knd:KeyKind prog w K}{A:Nh}{R:Result->Shared->Prop}{I:Addr}{fp wr:Nb}{G:Array GenState->Array GenState->Prop}{n:Nat}{P:Nat->Value->Prop}{St:Nat->Shared->Prop}
theorem Gq(W:WalksS prog w A.in1 I fp wr G n P St)(S:Addr)(hSf:S∉fp)(l:List K)(hl:l.length=n)
  (hval:∀i v,P i v->∃k,l[i]?=some k/\knd.is k v=true/\v.scannable=true) (hb:n+1<scanBound) :
  ∀(k i:Nat) (s:M9),n-i=k->i<=n->St i s ->
   s.heap.SetOf knd S (λk'=>decide (k'∈met (l.take i))) (met (l.take i)).length ->
   (∀s',Moved (S::wr) G s s'->s'.heap.SetOf knd S (λk'=>decide (k'∈met l)) (met l).length->R (.ok (.ret .none)) s') ->
   codeAny d⁻¹ A (.builtin "set.update.loop" ⟨[.ref S,.ref I],[]⟩) R s:=by
 have B:S∉wr:=λh=>hSf (W.sub _ h);have a:∀b∈wr,b∈S::wr:=λb hb=>Mr _ hb;intro k
 induction k with
 |zero=>
  intro i s hk hi c D Z;have O:i=n:=by omega
  subst O;rw[<- hl,MM]at D;refine codeAny_builtin F.entry_set_update_loop ?_;rw[Around.under_plainId F.plain_set_update_loop _];show wpAny _ A.in1 (pyNext (.ref I) >>= _) _ _ s;refine q04 (W.done s _ _ c λs' r=>?_);show wpAny _ A.in1 (ret Value.none) _ _ s';refine q05 (Z s' (r.mono a) ?_);obtain⟨o,es,ep,t,M,b5⟩:=D;exact⟨o,es,ep,t,r.heap S _ B M,b5⟩
 |succ k ih=>
  intro i s hk hi c D Z;have u:i<n:=by omega
  refine codeAny_builtin F.entry_set_update_loop ?_;rw[Around.under_plainId F.plain_set_update_loop _];show wpAny _ A.in1 (pyNext (.ref I) >>= _) _ _ s;refine q04 (W.item i s _ _ u c λv s' hP m r=>?_);obtain⟨j,x,y,L⟩:=hval i v hP;have Y:s'.heap.SetOf knd S (λk'=>decide (k'∈met (l.take i))) (met (l.take i)).length:=by
   obtain⟨o,es,ep,tb,M,b5⟩:=D;exact⟨o,es,ep,tb,r.heap S _ B M,b5⟩
  show wpAny _ A.in1 (holding [v] (setAdd S v) >>= _) _ _ s';refine q04 (q0U ?_);unfold setAdd;refine q0U ?_;refine q04 (knd.pyHash (k:=j) y ?_);have g:(met (l.take i)).length+1<scanBound:=by have:=Ei i (l.take i) (by rw[MN];omega);omega
  refine wpAny_setAddHashed_of (knd:=knd) (s:={s' with toks:=s'.toks+1}) y L Y g λh' p U=>?_;have ht:l.take (i+1)=l.take i++[j]:=by rw[q0E,x];rfl
  have T:h'.SetOf knd S (λk'=>decide (k'∈met (l.take (i+1)))) (met (l.take (i+1))).length:=
   SetOf_congr U (λk'=>by rw[ht,wP,xf]) (by rw[ht,wP,oP])
  refine q05 ⟨plainId_quiet F.plain_set_update_loop _,ih (i+1) _ ⋯ u (W.frame _ s' _ _ m (Nat.le_succ _) λb hb o e=>?_) T λJ q C=>?_⟩
  ·rw[p.2 b (λh:b=S=>hSf (by rw[<- h];exact hb))];exact e
  ·refine Z J (Moved.trans W.gtrans ((r.mono a).then_heap (Nat.le_succ _) λb o hb e=>?_) q) C
   rw[p.2 b (λh:b=S=>hb (by rw[h];exact q0B))];exact e
end
def cJ(z:Str):List Str:=z.cps.toList.map λc=>(⟨#[c]⟩:Str)
section
variable {prog:Nf}{w:Ni}{A:Nh}{E:M5}{s:M9}
def Db(s:M9)(led:Bool):Shared:={s with heap:=s.heap.push {cls:=.type "set",dict:=none,data:=.set #[] 0 (.fresh 0 0 led)} }
set_option maxHeartbeats 3200000 in
theorem vI{v:Value}{R:Heap->Nat->Prop}{Q:M5}
  (hi:∀led,(Db s led).TypeIs r⁻¹ "set"->codeAny d⁻¹ A.in1 (.call (.builtin "set.__init__") {pos:=[.ref s.heap.objs.size,v]})
   (wants (λr s₂=>r=.none/\∃h' tk,s₂={s with heap:=h',toks:=tk}/\R h' tk) E) (Db s led))
  (h:∀(h':Heap) (tk:Nat),R h' tk->Q r⁻¹ {s with heap:=h',toks:=tk}) :
  wpAny d⁻¹ A (call (.type "set") [v]) Q E s:=by
 obtain⟨c,tl,hmro⟩:=PySem.F.called_set.mro;have hmade:=PySem.F.called_set.made;have hsub:=PySem.F.called_set.sub;refine wpAny_call (codeAny_of_tree ?_);show wpAny _ _ (callAny (.type "set") _) _ _ _;refine q05 ⟨Code.quiet_builtin _ m⁻¹,codeAny_builtin PySem.F.entry_type_call ?_⟩;rw[Around.under_plain (weight_type_call_type "set" [v] []) rfl];have h1:=PySem.F.called_set.notType;have h2:=PySem.F.called_set.canCreate;have hct:=PySem.F.typeCall_set_1 v
 repeat (any_goals (first | with_reducible assumption | with_reducible refine q05 ?_ | with_reducible refine q04 ?_ | with_reducible refine q0U ?_ | with_reducible refine wpAny_of_eq (by assumption) ?_ | with_reducible refine wpAny_isInstance (by assumption) (by assumption) ?_ | with_reducible refine wpAny_specialOf (by assumption) (by assumption) ?_ | with_reducible refine wpAny_call ?_ | ((with_reducible apply wpAny_ite_false);focus (rfl;done)) | wp_delta))
 refine codeAny_mono (code_set_new_1 v (E:=E) (Q₁:=λobj b=>∃led:Bool,obj=.ref s.heap.objs.size/\b=Db s led) λled=>⟨led,rfl,rfl⟩) λr b hr=>?_;cases r with
 |error e=>exact hr
 |ok fl=>
  cases fl with
  |ret obj=>
   obtain⟨led,rfl,rfl⟩:=hr;have j:(Db s led).TypeIs r⁻¹ "set":=⟨_,Mg _ rfl,rfl⟩;have hli:=PySem.F.called_set.init.lookup;have hbi:=PySem.F.called_set.init.bind r⁻¹
   repeat (any_goals (first | with_reducible assumption | with_reducible refine q05 ?_ | with_reducible refine q04 ?_ | with_reducible refine q0U ?_ | with_reducible refine wpAny_of_eq (by assumption) ?_ | with_reducible refine wpAny_isInstance (by assumption) (by assumption) ?_ | with_reducible refine wpAny_specialOf (by assumption) (by assumption) ?_ | with_reducible refine wpAny_call ?_ | ((with_reducible apply wpAny_ite_false);focus (rfl;done)) | wp_delta))
   refine codeAny_mono (hi led j) λg s₂ a=>?_;cases g with
   |error e=>exact a
   |ok fl₂=>
    cases fl₂ with
    |ret r=>
     obtain⟨rfl,h',tk,rfl,k⟩:=a
     repeat (any_goals (first | with_reducible assumption | with_reducible refine q05 ?_ | with_reducible refine q04 ?_ | with_reducible refine q0U ?_ | with_reducible refine wpAny_of_eq (by assumption) ?_ | with_reducible refine wpAny_isInstance (by assumption) (by assumption) ?_ | with_reducible refine wpAny_specialOf (by assumption) (by assumption) ?_ | with_reducible refine wpAny_call ?_ | ((with_reducible apply wpAny_ite_false);focus (rfl;done)) | wp_delta))
     exact h _ _ k
    |_=>exact a.elim
  |_=>exact hr.elim
theorem sw{x:Str}{t:Tok}{Q:M5}(hh:A.handled=none)(hb:x.cps.size+1<scanBound)
  (h:∀(h':Heap) (tk:Nat),h'.SetOf (strKind prog w) s.heap.objs.size (λk'=>decide (k'∈met (cJ x))) (met (cJ x)).length ->
   (∀b o,s.heap.get? b=some o->h'.get? b=some o)->Q r⁻¹ {s with heap:=h',toks:=tk}) :
  wpAny d⁻¹ A (call (.type "set") [.str x t]) Q E s:=by
 refine vI (R:=λh' _=>h'.SetOf (strKind prog w) s.heap.objs.size (λk'=>decide (k'∈met (cJ x))) (met (cJ x)).length/\∀b o,s.heap.get? b=some o->h'.get? b=some o)
  (λa r=>?_) λh' tk hr=>h h' tk hr.1 hr.2
 refine codeAny_call_builtin PySem.F.called_set.init.plain PySem.F.entry_set_init (check_set_init_1 r ?_);unfold Db at r ⊢;have D:(s.heap.push {cls:=.type "set",dict:=none,data:=.set #[] 0 (.fresh 0 0 a)}).get? s.heap.objs.size=some {cls:=.type "set",dict:=none,data:=.set #[] 0 (.fresh 0 0 a)}:=Mg _ rfl;have hsls:=PySem.F.sub_str_set;have hslf:=PySem.F.sub_str_frozenset;have hne:(Value.type "str" == Value.type "dict")=false:=by decide
 unfold Builtin.«set.__init__» noKeywords Builtin.Frozenset.updateFrom;generalize p:pyIter=PI
 wp_walk
 subst p;refine wpAny_pyIter_str λo St W l=>?_;refine q04 (wpAny_runValue ?_);have m:s.heap.objs.size∉[(s.heap.push {cls:=.type "set",dict:=none,data:=.set #[] 0 (.fresh 0 0 a)}).objs.size]:=by
  rw[Heap.size_push];simp only[Mc]
  exact Mu (MI _)
 refine Gq (knd:=strKind prog w) ((W _ (by simp[hh])).toS) s.heap.objs.size m (cJ x) (by simp[cJ])
  (λi v ⟨c,u,C,q⟩=>⟨⟨#[c]⟩,by unfold cJ;rw[Md,Array.getElem?_toList,C];rfl,by rw[q];exact strKind_is _ _ _ _,by rw[q];rfl⟩) hb (x.cps.size-0) 0 _ ⋯ (Mz _) l ?hS0 ?hR
 case hS0=>
  exact SetOf_congr ((setObjOf_fresh (knd:=strKind prog w) a).setOf (Ma _ D) (by unfold scanBound;omega)) (λ_=>rfl) rfl
 case hR=>
  intro y g n;obtain⟨h',G,M,j,k⟩:=y;have J:G=s.gens:=g.gens;have L:M=s.drawn:=g.drawn;have I:k=s.os:=g.os;subst J;subst L;subst I
  show wpAny _ _ _ _ _ _;refine q05 ?_;show wpAny _ _ (ret Value.none) _ _ _;refine q05 ⟨rfl,h',j,rfl,n,λb B e=>?_⟩;have hb:=MB e;refine g.heap b B ?_ (Ma _ (Ma _ e));simp only[Mq,List.not_mem_nil,or_false,not_or,Heap.size_push];exact⟨Mu hb,Mu (Nat.lt_succ_of_lt hb)⟩
end
def uL(t:TE):TE:=λσ H Q=>t σ H λx H1=>∃z,x=.str z/\z.cps.size+1<scanBound/\Q (.int (met (cJ z)).length) H1
section
variable {X:Cx}{e:Expr}{t:TE}{p p2 pos pos2:Pos}
theorem Ce(hc:X.calm=true)(ha:PE X e t)(g1:Gl X "len")(m1:X.mg "len"=none)(g2:Gl X "set")(m2:X.mg "set"=none)
  (he1:autoParam (starEach [.Call (.Name "set" p2) [e] [] pos2] X.env=[(false,eval (.Call (.Name "set" p2) [e] [] pos2) X.env)]) zz0._auto_1)
  (he2:autoParam (starEach [e] X.env=[(false,eval e X.env)]) zz0._auto_1) :
  PE X (.Call (.Name "len" p) [.Call (.Name "set" p2) [e] [] pos2] [] pos) (uL t):=by
 intro a s σ H Q I h;have m:bootBuiltins "len"=some (.builtin "len"):=by decide +kernel
 have k:bootBuiltins "set"=some (.type "set"):=by decide +kernel
 refine wpAny_Call_Name_kw (fG I g1 m1 m ?_);refine PyProof.Rows.callWith_builtin1 ?_ he1 rfl;rw[he1];show wpAny _ _ (spliced [(false,eval (.Call (.Name "set" p2) [e] [] pos2) X.env)]) _ _ _;refine Calls.spliced_cons ?_;refine wpAny_Call_Name_kw (fG (I.tok _) g2 m2 k ?_);refine PyProof.Rows.callWith_type1 ?_ he2 rfl;rw[he2];show wpAny _ _ (spliced [(false,eval e X.env)]) _ _ _;refine Calls.spliced_cons (bV (ha a _ σ H _ (I.tok _) h) λu s1 ⟨x,B,y,j,z,w,c,q⟩=>Calls.spliced_nil ?_);subst w;obtain⟨tk,rfl⟩:=j;refine sw (I.ok.hd hc) c λh' tk' v n=>Calls.spliced_nil ?_;obtain⟨o,l,b,es,ep,tb,hd,_,_,g,r⟩:=v.objOf;have hle:=Ei z.cps.size (cJ z) (by simp[cJ]);have hb:z.cps.size<4096:=by unfold scanBound at c;omega
 refine call_len_set l b hd r (by rw[g];have:((4096:Nat):Int)<2^63:=nofun;omega) ?_;rw[g];exact⟨.int _,B,(y.kept (t':=_) n),⟨_,rfl⟩,q⟩
end
abbrev NT:=List (Str×Addr×List Nat)
def xO(t:NT):List (c8×V):=t.map λx=>(Sum.inr x.1,V.ref x.2.1)
def xQ(ns:M8):List V:=ns.map fun(n:Nat)=>V.int (n:Int)
structure dy(H:Hp)(p:Addr)(t:NT):Prop where
 dict:H p=some (.dK (xO t))
 list:∀x∈t,H x.2.1=some (.lst (xQ x.2.2))
 apart:(t.map (·.2.1)).Nodup
theorem dy.grow{H':Hp}{t:NT}(N:dy H p t)(k:∀a o,H a=some o->H' a=some o):dy H' p t:=⟨k _ _ N.dict,λx hx=>k _ _ (N.list x hx),N.apart⟩
theorem yf(z:Str):∀t:NT,cn (xO t) (.inr z)=(t.find? λx=>decide (x.1=z)).map λx=>V.ref x.2.1
 | []=>rfl
 |x::t=>by
  have ih:=yf z t;unfold xO at ih ⊢;rw[MF,List.find?_cons]
  by_cases e:x.1=z
  ·rw[cU (by rw[e])];simp[e]
  ·rw[cV (λh=>e (Sum.inr.inj h)),ih];simp[e]
theorem dy.new{t:NT}{z:Str}(N:dy H p t)(hl:H l=none)(hz:cn (xO t) (.inr z)=none) :
  dy (aA (aA H l (.lst [])) p (.dK (cF (xO t) (.inr z) (.ref l)))) p (t++[(z,l,[])]):=by
 have g:p≠l:=λe=>by have:=N.dict;rw[e,hl]at this;exact nomatch this
 have c:∀x∈t,x.2.1≠l/\x.2.1≠p:=λx c=>by
  have q:=N.list x c
  constructor
  ·intro e;rw[e,hl]at q;exact nomatch q
  ·intro e;rw[e,N.dict]at q;exact nomatch q
 refine⟨?_,λx h=>?_,?_⟩
 ·rw[ad,rB _ hz];unfold xO;rw[Mn];rfl
 ·rcases Mo.mp h with h | h
  ·rw[ao (c x h).2,ao (c x h).1];exact N.list x h
  ·rw[Mc.mp h,ao (Ne.symm g),ad];rfl
 ·rw[Mn]
  refine List.nodup_append.mpr ⟨N.apart,by simp,λa k b j=>?_⟩;obtain⟨x,h1,rfl⟩:=MR.mp k;rw[List.map_singleton]at j;rw[Mc.mp j];exact(c x h1).1
theorem dy.put{t:NT}{i k:Nat}{x:Str×Addr×List Nat}(N:dy H p t)(hi:t[i]?=some x) :
  dy (aA H x.2.1 (.lst (xQ (x.2.2++[k])))) p (t.set i (x.1,x.2.1,x.2.2++[k])):=by
 have m:x∈t:=Me hi;have l:p≠x.2.1:=λe=>by have:=N.list x m;rw[<- e,N.dict]at this;exact nomatch this
 have a:i<t.length:=(L'.mp hi).1;have n:xO (t.set i (x.1,x.2.1,x.2.2++[k]))=xO t:=by
  unfold xO;apply List.ext_getElem?;intro j;rw[Md,Md,List.getElem?_set]
  by_cases e:i=j
  ·subst e;rw[q07 rfl,q07 a,hi];rfl
  ·rw[q06 e]
 have o:(t.set i (x.1,x.2.1,x.2.2++[k])).map (·.2.1)=t.map (·.2.1):=by
  apply List.ext_getElem?;intro j;rw[Md,Md,List.getElem?_set]
  by_cases e:i=j
  ·subst e;rw[q07 rfl,q07 a,hi];rfl
  ·rw[q06 e]
 refine⟨by rw[ao l,n];exact N.dict,λy g=>?_,by rw[o];exact N.apart⟩;obtain⟨j,b⟩:=List.mem_iff_getElem?.mp g;rw[List.getElem?_set]at b
 by_cases e:i=j
 ·rw[q07 e,q07 a]at b
  cases b;exact ad
 ·rw[q06 e]at b
  have c:y.2.1≠x.2.1:=by
   intro q;have h1:(t.map (·.2.1))[i]?=some x.2.1:=by rw[Md,hi];rfl
   have h2:(t.map (·.2.1))[j]?=some x.2.1:=by rw[Md,b];simp[q]
   exact e ((List.getElem?_inj (L'.mp h1).1 N.apart).mp (h1.trans h2.symm))
  rw[ao c];exact N.list y (Me b)
def jK(t:NT):List (Str×List Nat):=t.map λx=>(x.1,x.2.2)
def b6(m:List (Str×List Nat))(z:Str):List (Str×List Nat):=if z∈m.map (·.1) then m else m++[(z,[])]
theorem El{t:NT}{z:Str}{v:V}(h:cn (xO t) (.inr z)=some v):∃(i:Nat) (x:Str×Addr×List Nat),t[i]?=some x/\x.1=z/\v=.ref x.2.1:=by
 rw[yf]at h;cases a:t.find? (λx=>decide (x.1=z)) with
 |none=>rw[a]at h;exact nomatch h
 |some x=>
  rw[a]at h;have c:V.ref x.2.1=v:=q0Q h;obtain⟨i,e⟩:=List.mem_iff_getElem?.mp (List.mem_of_find?_eq_some a);have b:=List.find?_some a;exact⟨i,x,e,of_decide_eq_true b,c.symm⟩
theorem AH(t:NT):(jK t).map (·.1)=t.map (·.1):=by unfold jK;rw[Mp];rfl
theorem G4{t:NT}{z:Str}(h:cn (xO t) (.inr z)=none):¬ z∈(jK t).map (·.1):=by
 intro m;rw[AH]at m;obtain⟨x,a,e⟩:=MR.mp m;refine wJ h (MR.mpr ⟨(.inr x.1,.ref x.2.1),MR.mpr ⟨x,a,rfl⟩,?_⟩);show(Sum.inr x.1:c8)=Sum.inr z;rw[e]
theorem dy.setdef{t:NT}{z:Str}{Q:VK}(N:dy H p t)(hl:H l=none)(hn:t.length<sizeLine)
  (h:∀(H':Hp) (t':NT) (i:Nat) (x:Str×Addr×List Nat),dy H' p t'->t'[i]?=some x->x.1=z->jK t'=b6 (jK t) z->(∀y∈t',y∈t\/y.2.1=l)->(∀a o,a≠p->H a=some o->H' a=some o)->Q (.ref x.2.1) H') :
  ∃kvs k,aA H l (.lst []) p=some (.dK kvs)/\V.str z=kV k/\kvs.length<sizeLine/\(∀v,cn kvs k=some v->Q v (aA H l (.lst []))) /\
   (cn kvs k=none->Q (.ref l) (aA (aA H l (.lst [])) p (.dK (cF kvs k (.ref l))))):=by
 have hpl:p≠l:=λe=>by have:=N.dict;rw[e,hl]at this;exact nomatch this
 have gr:∀a o,H a=some o->aA H l (.lst []) a=some o:=λa o e=>by
  rw[ao (λq=>by rw[q,hl]at e;exact nomatch e)];exact e
 refine⟨xO t,.inr z,gr _ _ N.dict,rfl,by unfold xO;rw[Mb];exact hn,λv m=>?_,λc=>?_⟩
 ·obtain⟨i,x,j,g,rfl⟩:=El m
  refine h _ t i x (N.grow gr) j g ?_ (λy b=>.inl b) λa o _ e=>gr a o e;have n:z∈(jK t).map (·.1):=by rw[AH];exact MR.mpr ⟨x,Me j,g⟩
  unfold b6;rw[q07 n]
 ·refine h _ (t++[(z,l,[])]) t.length (z,l,[]) (N.new hl c) (by simp) rfl ?_ (λy b=>(Mo.mp b).imp id λq=>by rw[Mc.mp q]) λa o r e=>by rw[ao r];exact gr a o e
  unfold b6;rw[q06 (G4 c)];unfold jK;rw[Mn];rfl
theorem FH{t:NT}{i:Nat}{x:Str×Addr×List Nat}(k:Nat):jK (t.set i (x.1,x.2.1,x.2.2++[k]))=(jK t).set i (x.1,x.2.2++[k]):=by
 unfold jK;rw[List.map_set]
theorem m5{m:List (Str×List Nat)}{z:Str}(h:(m.map (·.1)).Nodup):((b6 m z).map (·.1)).Nodup:=by
 unfold b6
 by_cases e:z∈m.map (·.1)
 ·rw[q07 e];exact h
 ·rw[q06 e,Mn]
  refine List.nodup_append.mpr ⟨h,by simp,λa g b c=>?_⟩;rw[List.map_singleton]at c;rw[Mc.mp c];exact λq=>e ((show a=z from q)▸g)
theorem DF{X:Cx}{e:Expr}{t:TA}{x:Str}{j:Nat}{p apos cpos:Pos}(ha:PA X [e] t)(hline:(apos.endLine==cpos.line)=true)(hs:starEach [e] X.env=[(false,eval e X.env)]) :
  PE X (.Call (.Attribute (.Constant (.str x) j p) "join" apos) [e] [] cpos) (IM X.K "str" (Ak X.K) (tC (.str x)) t):=
 ib PySem.F.plainAttrs_str PySem.F.slot_str_join PySem.F.type_str_join Go mr ha rfl (by rw[hs];rfl) hline hs rfl
end L2
namespace QL
open PySem PySem.Spec PyProof.Rows
theorem HG:bootBuiltins "max"=some (.builtin "max"):=by decide +kernel
end QL
namespace CtM
open PySem PySem.Builtin PySem.Builtin.Str QL SpM
theorem qM(c:Nat):∀(x:M8) (rows:List (List Nat)),rows≠[]->(x.foldl (SpM.step c) rows).length=rows.length+x.count c
 | [],rows,_=>by simp
 |d::x,rows,h=>by
  have h1:SpM.step c rows d≠[]:=by unfold SpM.step;split<;>simp
  rw[List.foldl_cons,qM c x _ h1,List.count_cons];unfold SpM.step
  by_cases e:d=c
  ·rw[q07 e];subst e;simp;omega
  ·rw[q06 e]
   have:0<rows.length:=List.length_pos_iff.mpr h;simp[e];omega
end CtM
namespace L2
open PySem PySem.Spec PyProof.Rows QL
section
variable {K:M6}{g:TG}{ti:TT}{te:TE}{σ:St}{H:Hp}{Q:List V->Hp->Prop}{α:Type}
theorem pV{as:List α}{f:α->Option V}{i:Nat}{x:α}(hx:as[i]?=some x):(as.take (i+1)).filterMap f=(as.take i).filterMap f++(f x).toList:=by
 rw[q0E,hx,List.filterMap_append];show _++List.filterMap f [x]=_;cases h:f x<;>simp[h]
theorem CY{as:List α}{f:α->Option V}(i:Nat):((as.take i).filterMap f).length<=as.length:=MG (List.length_filterMap_le _ _) (by rw[MN];omega)
theorem mH{as:List α}(f:α->V):as.filterMap (λx=>some (f x))=as.map f:=by induction as with | nil=>rfl | cons x xs ih=>simp
theorem gR{as:List α}{emb:α->V}{f:α->Option V}(S:St->Prop)(h0:S σ)(hl:∀H',aD H H'->aO K H' a (as.map emb))(hn:as.length<=1000000)
  (hs:∀(i:Nat) x,as[i]?=some x->∀σ H' (N1:V->St->Hp->Prop) (N0:St->Hp->Prop),S σ->aD H H'->(∀v σ2 H2,f x=some v->aD H H2->S σ2->N1 v σ2 H2)->(∀σ2 H2,f x=none->aD H H2->S σ2->N0 σ2 H2) ->
   g (emb x) σ H' λσ2 H3=>ti σ2 H3 λb H4=>if b=true then te σ2 H4 λv H5=>N1 v σ2 H5 else N0 σ2 H4)
  (he:∀H',aD H H'->Q (as.filterMap f) H'):iK (Fc K a) g ti te σ H Q:=by
 refine nF (xs:=as.map emb) (λi c σ H'=>aD H H'/\c=(as.take i).filterMap f/\i<=as.length/\S σ) ⟨λ_ _ e=>e,rfl,Mz _,h0⟩ ?_ ?_ ?_ ?_ ?_
 ·rintro i c σ H' ⟨_,rfl,_⟩
  have:=CY (as:=as) (f:=f) i;exact bf ⋯
 ·rintro i c σ H' ⟨_,_,h,_⟩
  rw[Mb];exact h
 ·rintro i c σ H' ⟨k,_⟩
  exact hl _ k
 ·rintro i x c σ H' l ⟨k,rfl,hi,n⟩
  have j:i<as.length:=by have:=(L'.mp l).1;rwa [Mb]at this
  rw[Md,L_ j]at l;cases l;have m:as[i]?=some as[i]:=L_ j;refine hs i as[i] m σ H' (λv σ2 H5=>_) (λσ2 H4=>_) n k (λv σ2 H2 hf s2 hS2=>⟨s2,?_,j,hS2⟩) (λσ2 H2 hf s2 hS2=>⟨s2,?_,j,hS2⟩)
  ·rw[pV m,hf];rfl
  ·rw[pV m,hf];simp
 ·rintro c σ H' ⟨k,rfl,_⟩
  have e:(as.take (as.map emb).length).filterMap f=as.filterMap f:=by rw[Mb,MM]
  rw[e];exact he _ k
theorem yA{as:List α}{emb:α->V}{f:Nat->α->Option V}(S:St->Prop)(h0:S σ)(hl:∀H',aD H H'->aO K H' a (as.map emb))(hn:as.length<=1000000)
  (hs:∀(i:Nat) x,as[i]?=some x->∀σ H' T (N1:V->St->Hp->Prop) (N0:St->Hp->Prop),S σ->aD H H'->H' T=none->(∀v σ2 H2,f i x=some v->aD H H2->S σ2->N1 v σ2 H2)->(∀σ2 H2,f i x=none->aD H H2->S σ2->N0 σ2 H2) ->
   g (.ref T) σ (aA H' T (.tup [.int (i:Int),emb x])) λσ2 H3=>ti σ2 H3 λb H4=>if b=true then te σ2 H4 λv H5=>N1 v σ2 H5 else N0 σ2 H4)
  (he:∀H',aD H H'->Q (as.zipIdx.filterMap λx=>f x.2 x.1) H'):iK (Ix K a) g ti te σ H Q:=by
 have m:as.zipIdx.length=as.length:=List.length_zipIdx;refine jt (J:=Ix K a) (n:=as.length) (λi c σ H'=>aD H H'/\c=(as.zipIdx.take i).filterMap (λx=>f x.2 x.1)/\i<=as.length/\S σ) ⟨λ_ _ e=>e,rfl,Mz _,h0⟩ ?_ ?_ ?_ ?_ ?_ ?_
 ·rintro i c σ H' ⟨_,rfl,_⟩
  have:=CY (as:=as.zipIdx) (f:=λx=>f x.2 x.1) i;exact bf ⋯
 ·rintro i c σ H' ⟨_,_,h,_⟩
  exact h
 ·rintro c σ H' ⟨k,_⟩
  exact⟨_,hl _ k,by rw[Mb];exact My _⟩
 ·rintro i c σ H' j ⟨k,_⟩
  exact⟨_,emb as[i],hl _ k,by rw[Md,L_ j];rfl⟩
 ·rintro i x c σ H' H2 j ⟨k,rfl,hi,r⟩ ⟨T,y,rfl,q,rfl,l⟩
  have o:as[i]?=some as[i]:=L_ j;have l:=l _ (hl _ k);rw[Md,o]at l;cases l;have p:as.zipIdx[i]?=some (as[i],i):=by rw[List.getElem?_zipIdx,o];simp
  refine hs i as[i] o σ H' T (λv σ2 H5=>_) (λσ2 H4=>_) r k q (λv σ2 H2 hf s2 hS2=>⟨s2,?_,j,hS2⟩) (λσ2 H2 hf s2 hS2=>⟨s2,?_,j,hS2⟩)
  ·rw[pV p];simp only[hf];rfl
  ·rw[pV p];simp[hf]
 ·rintro c σ H' ⟨k,rfl,_⟩
  have e:(as.zipIdx.take as.length).filterMap (λx=>f x.2 x.1)=as.zipIdx.filterMap (λx=>f x.2 x.1):=by rw[<- m,MM]
  rw[e];exact he _ k
theorem w6{n:Nat}{f:Nat->Option V}(S:St->Prop)(h0:S σ)(hn:n<=1000000)
  (hs:∀i,i<n->∀σ H' (N1:V->St->Hp->Prop) (N0:St->Hp->Prop),S σ->aD H H'->(∀v σ2 H2,f i=some v->aD H H2->S σ2->N1 v σ2 H2)->(∀σ2 H2,f i=none->aD H H2->S σ2->N0 σ2 H2) ->
   g (.int (0+(i:Int))) σ H' λσ2 H3=>ti σ2 H3 λb H4=>if b=true then te σ2 H4 λv H5=>N1 v σ2 H5 else N0 σ2 H4)
  (he:∀H',aD H H'->Q ((List.range n).filterMap f) H'):iK (CK 0 n) g ti te σ H Q:=by
 refine fH (lo:=0) (n:=n) (λi a σ H'=>aD H H'/\a=(List.range i).filterMap f/\i<=n/\S σ) ⟨λ_ _ e=>e,rfl,Mz _,h0⟩ ?_ ?_ ?_ ?_
 ·rintro i a σ H' ⟨_,rfl,c,_⟩
  have:=List.length_filterMap_le f (List.range i);rw[q0H]at this;exact bf ⋯
 ·rintro i a σ H' ⟨_,_,h,_⟩
  exact h
 ·rintro i a σ H' c ⟨j,rfl,_,k⟩
  refine hs i c σ H' (λv σ2 H5=>_) (λσ2 H4=>_) k j (λv σ2 H2 hf s2 hS2=>⟨s2,?_,c,hS2⟩) (λσ2 H2 hf s2 hS2=>⟨s2,?_,c,hS2⟩)
  ·rw[q0K,List.filterMap_append];simp[hf]
  ·rw[q0K,List.filterMap_append];simp[hf]
 ·rintro a σ H' ⟨j,rfl,_⟩
  exact he _ j
end
end L2
namespace ThM
open PySem L2
def dq(ks:Ng)(z:Str):List Str:=if z∈ks then ks else ks++[z]
theorem mem_addNew{ks:Ng}{z y:Str}:y∈dq ks z↔y∈ks\/y=z:=by
 unfold dq
 split
 ·rename_i h
  exact⟨.inl,λq=>q.elim id λe=>e▸h⟩
 ·rw[Mo,Mc]
section
variable {α:Type}(f:List α->List α)
def Jn:Nat->List α->List α
 |0,s=>s
 |n+1,s=>f (Jn n s)
variable {f}
end
abbrev NR:=Str×List Str
def F6(ks:Ng)(r:NR):List Str:=if(∀z∈r.2,z∈ks) then dq ks r.1 else ks
def Eh(rs:List NR)(ks:Ng):List Str:=rs.foldl F6 ks
theorem nd_len{ks ms:Ng}(hn:ks.Nodup)(h:∀z∈ks,z∈ms):ks.length<=ms.length:=by
 induction ks generalizing ms with
 |nil=>exact Mz _
 |cons k ks ih=>
  rw[q0Y]at hn;have c:=h k q0B;have h1:=ih (ms:=ms.erase k) hn.2 λz b=>by
   have a:z≠k:=λe=>hn.1 (e▸b);exact(List.mem_erase_of_ne a).mpr (h z (Mr _ b))
  have h2:=List.length_erase_of_mem c;have h3:=List.length_pos_of_mem c;rw[Mm];omega
def GY(rs:List NR):List Str:=Jn (Eh rs) rs.length []
end ThM
namespace ThM
open PySem L2
theorem nA{y:Str}:∀(zs ks:Ng),y∈zs.foldl dq ks↔y∈ks\/y∈zs
 | [],ks=>by simp
 |z::zs,ks=>by
  rw[List.foldl_cons,nA zs,mem_addNew,Mq];exact⟨λh=>h.elim (λh=>h.elim .inl λe=>.inr (.inl e)) λh=>.inr (.inr h),λh=>h.elim (λh=>.inl (.inl h)) λh=>h.elim (λe=>.inl (.inr e)) .inr⟩
def D6(ks:Ng)(r:NR):List Str:=if r.1∈ks then r.2.foldl dq ks else ks
def CH(rs:List NR)(ks:Ng):List Str:=rs.foldl D6 ks
def Il(ks:Ng)(r:NR):Prop:=r.1∈ks/\∀z∈r.2,z∈ks
noncomputable instance (ks:Ng)(r:NR):Decidable (Il ks r):=by unfold Il;infer_instance
def Hb(st:Str)(rs:List NR):List Str:=Jn (CH rs) rs.length [st]
def Gv(rs:List NR)(r:NR):Bool:=decide (∀z∈r.2,z∈GY rs)
def Je(rs:List NR):List NR:=rs.filter (Gv rs)
def Ja(st:Str)(rs:List NR):List Str:=Hb st (Je rs)
def keep(st:Str)(rs:List NR)(r:NR):Bool:=decide (r.1∈Ja st rs)&&Gv rs r
end ThM
namespace L2
open PySem PySem.Spec PyProof.Rows
section
variable {X:Cx}{body:List Stmt}{h₀:ExceptHandler}{hs:List ExceptHandler}{tb:TS}{pos:Pos}
theorem wQ(hb:wz X.nox body tb):PS X (.Try body (h₀::hs) [] [] pos) tb:=by
 intro a s σ H De I h;refine wpAny_Try_except ?_;refine q0T (hb a s σ H De (I.wish _) h) (λfl s1 q=>?_) λ_ _ f=>f.elim;have b:=SP.unwish q;cases fl with
 |next=>exact wpAny_execs_nil b
 |brk=>exact b
 |cont=>exact b
 |ret u=>exact b
theorem AF{ta:TE}{f:Str}{K:M6}(hK:X.K=K)(he:PE X e ta)(hb:attributeBase e f X.env (eval e X.env)=eval e X.env):PE X (.Attribute e f pos) (F' K ta f):=hK▸bM he hb
theorem DU{es' es:Nk}{x1:Nat}{p:Pos}{te:TE}{t:TA}(ha:PE X (.Tuple es' x1 p) te)(hr:PA X es t):PA X (.Tuple es' x1 p::es) (lO te t):=aa ha hr rfl
def fA(xs ys:List V):Bool:=(List.range (min xs.length ys.length)).all (λj=>match xs[j]?,ys[j]? with | some x,some y=>nB x y | _,_=>true)&&xs.length==ys.length
def F5(K:M6):R2:=λx y H Q=>∃a b xs ys,x=.ref a/\y=.ref b/\aS K H a xs/\aS K H b ys/\xs.all jy=true/\ys.all jy=true/\Q (.bl (fA xs ys)) H
theorem u6(hu:X.A.units+64<cLine):bg X (compareOp .Eq) (F5 X.K):=by
 intro pins s σ H x y v u Q I rx ry h;obtain⟨a,b,m,k,rfl,rfl,T,S,fx,Z,q⟩:=h;cases rx;cases ry
 obtain⟨g,C,M,_⟩:=I.tuple T;obtain⟨c,B,L,_⟩:=I.tuple S;have R:=C.length;have O:=B.length
 have J:=SeqAt.RcAt.tuples (A:=X.A) (s:=s) (e:=λj=>match m[j]?,k[j]? with | some x,some y=>nB x y | _,_=>true) (show s.heap.IsTuple a g.toArray from M) (show s.heap.IsTuple b c.toArray from L) ⋯ (λj Y U=>by
  have w:j<g.length:=by simpa using Y
  have r:j<c.length:=by simpa using U
  have n:m[j]?=some m[j]:=L_ ⋯;have l:k[j]?=some k[j]:=L_ ⋯;obtain⟨w1,G,p⟩:=C.get n;obtain⟨w2,D,o⟩:=B.get l;rw[L_ w]at G;rw[L_ r]at D;cases G;cases D
  simp only[MU,n,l];exact gP p o (MS.mp fx _ (Me n)) (MS.mp Z _ (Me l)))
 refine J _ _ _ _ ⟨.bl _,H,I,rfl,?_⟩;rw[Mh,Mh,<- R,<- O];exact q
end
section
variable {X:Cx}{es:Nk}{t:TA}{te:TE}
structure WA(X:Cx)(es:Nk)(t:TA):Prop where
 out:PA X es t
structure WE(X:Cx)(e:Expr)(t:TE):Prop where
 out:PE X e t
structure WB(X:Cx)(b:List Stmt)(t:TS):Prop where
 out:wz X b t
theorem vN:WA X [] sS:=⟨ac⟩
theorem vj{x:Int}{j:Nat}{p:Pos}(hr:WA X es t):WA X (.Constant (.int x) j p::es) (lO (tC (.int x)) t):=⟨bx hr.out⟩
theorem Hm{es':Nk}{x1:Nat}{p:Pos}(ha:WE X (.Tuple es' x1 p) te)(hr:WA X es t):WA X (.Tuple es' x1 p::es) (lO te t):=⟨DU ha.out hr.out⟩
theorem zJ(h:WA X es t):WE X (.Tuple es x1 p) (FD t):=⟨aN h.out⟩
theorem Hr(h:WA X es t):WE X (.List es p) (DR t):=⟨bA h.out⟩
structure WS(X:Cx)(s:Stmt)(t:TS):Prop where
 out:PS X s t
theorem FU{st:Stmt}{b5:List Stmt}(h1:WS X st u)(h2:wz X b5 v):WB X (st::b5) (yi u v):=⟨af h1.out h2⟩
end
end L2
namespace L2
open PySem PySem.Spec PyProof.Rows
end L2
namespace L2
open PySem PySem.Spec PyProof.Rows QL
section
variable {X:Cx}
def GX(K:M6):R2:=λx y H Q=>∃ds,Dt.deps ds<=200/\nC K H (.tup ds) x/\nC K H (.tup ds) y/\Q (.bl true) H
theorem Hd(hu:X.A.units+210<cLine):bg X (compareOp .Eq) (GX X.K):=by
 intro r s σ H x y v u Q I rx ry h;obtain⟨Y,hd,h1,h2,q⟩:=h;have L:EP X r σ Q (.bool true) s:=⟨.bl true,H,I,rfl,q⟩;have item:∀{n m:List V} {g c:Na},gY X.K H Y n->gY X.K H Y m->bd n g->bd m c->∀j (h1:j<g.toArray.size) (h2:j<c.toArray.size),SeqAt.EqAt X.A.in1 s g.toArray[j] c.toArray[j] true:=fun{n m g c} l k p o j g1 g2=>by
  have l1:=p.length;have l2:=o.length;have l3:=l.length;have l4:=k.length
  have J:j<g.length:=by simpa using g1
  have G:j<c.length:=by simpa using g2
  have O:n[j]?=some n[j]:=L_ ⋯;have M:m[j]?=some m[j]:=L_ ⋯;obtain⟨d,U,D⟩:=l.get O;obtain⟨d',T,C⟩:=k.get M;rw[U]at T;cases T
  obtain⟨w1,S,B⟩:=p.get O;obtain⟨w2,R,w⟩:=o.get M;rw[L_ J]at S;rw[L_ G]at R;cases S;cases R
  have hdep:=iP U;simp only[MU];exact vz I 200 d X.A.in1 ⋯ (by show X.A.units+1+200<cLine;omega) D C B w
 unfold nC at h1 h2;obtain⟨a,n,rfl,ha,l⟩:=h1;obtain⟨b,m,rfl,hb,k⟩:=h2;cases rx;cases ry
 obtain⟨g,p,pa,_⟩:=I.tuple ha;obtain⟨c,o,Z,_⟩:=I.tuple hb;have l1:=p.length;have l2:=o.length;have l3:=l.length;have l4:=k.length
 have q:=SeqAt.RcAt.tuples (A:=X.A) (s:=s) (e:=λ_=>true) (show s.heap.IsTuple a g.toArray from pa) (show s.heap.IsTuple b c.toArray from Z) ⋯ (item l k p o);have e0:((List.range (min g.toArray.size c.toArray.size)).all (λ_=>true)&&g.toArray.size==c.toArray.size)=true:=by
  rw[gH,Bool.true_and];simp;omega
 rw[e0]at q;exact q _ _ _ _ L
theorem dh.units210{k:Nat}{A:Nh}(r:dh (k+1) A):A.units+210<cLine:=by have:=r.un;omega
end
theorem aD.sqT{K:M6}(e:aD H H')(h:aS K H a xs):aS K H' a xs:=by
 rcases h with(h | ⟨o,h⟩) | h
 ·exact .inl (.inl (e _ _ h))
 ·exact .inl (.inr ⟨o,e _ _ h⟩)
 ·exact .inr h
section
variable {K:M6}{g:TG}{tb:TS}{D:iO}{σ:St}{H:Hp}
theorem EF{xs:List V}(Pv:Nat->St->Hp->Prop)(h0:Pv 0 σ H)(hl:∀i σ H,i<=xs.length->Pv i σ H->aO K H a xs)
  (hs:∀i x σ H,i<xs.length->xs[xs.length-1-i]?=some x->Pv i σ H->g x σ H λσ2 H2=>tb {D with nx:=Pv (i+1),ct:=Pv (i+1),bk:=D.nx} σ2 H2) (hd:∀σ H,Pv xs.length σ H->D.nx σ H):u5 (Ih K a xs.length) g tb D σ H:=by
 refine⟨λi m σ H=>Pv i σ H/\i<=xs.length/\m=xs.length+1-i,⟨_,h0,Mz _,rfl⟩,?_⟩;rintro i m σ' H' ⟨w,c,rfl⟩;rcases Nat.lt_or_ge i xs.length with b | hge
 ·refine .inr ⟨⟨xs,xs[xs.length-1-i]'⋯,hl _ _ _ c w,b,L_ ⋯⟩,Pv (i+1),λσ2 H2 w2=>⟨xs.length+1-(i+1),⋯,w2,b,rfl⟩,λx H2 y=>?_⟩
  obtain⟨rfl,j⟩:=y;exact hs i x σ' H2 b (j xs (hl _ _ _ c w)) w
 ·have e:i=xs.length:=by omega
  subst e;exact .inl ⟨rfl,hd _ _ w⟩
end
def dH(H H':Hp):Prop:=∀b xs,H b=some (.tup xs)->H' b=some (.tup xs)
theorem dH.of(s:aD H H'):dH H H':=λb xs h=>s b _ h
mutual
def aU(H:Hp):Dt->V->Prop
 | .int i,v=>v=.int i
 | .tup ds,v=>∃a xs,v=.ref a/\H a=some (.tup xs)/\aL H ds xs
 |_,_=>False
def aL(H:Hp):List Dt->List V->Prop
 | [],xs=>xs=[]
 |d::ds,xs=>∃x r,xs=x::r/\aU H d x/\aL H ds r
end
mutual
theorem aU.up(e:dH H H'):∀(d:Dt) {v:V},aU H d v->aU H' d v
 | .int i,v,h=>by unfold aU at h ⊢;exact h
 | .tup ds,v,h=>by unfold aU at h ⊢;obtain⟨a,xs,r,hs,hd⟩:=h;exact⟨a,xs,r,e _ _ hs,aL.up e ds hd⟩
 | .non,v,h=>by unfold aU at h;exact h.elim
 | .bl b,v,h=>by unfold aU at h;exact h.elim
 | .str x,v,h=>by unfold aU at h;exact h.elim
 | .lst ds,v,h=>by unfold aU at h;exact h.elim
theorem aL.up(e:dH H H'):∀(ds:List Dt) {xs:List V},aL H ds xs->aL H' ds xs
 | [],xs,h=>by unfold aL at h ⊢;exact h
 |d::ds,xs,h=>by unfold aL at h ⊢;obtain⟨x,r,e0,h1,h2⟩:=h;exact⟨x,r,e0,aU.up e d h1,aL.up e ds h2⟩
end
mutual
theorem aU.rd{K:M6}:∀(d:Dt) {v:V},aU H d v->nC K H d v
 | .int i,v,h=>by unfold aU at h;unfold nC;exact h
 | .tup ds,v,h=>by unfold aU at h;unfold nC;obtain⟨a,xs,r,hs,hd⟩:=h;exact⟨a,xs,r,aS.of hs,aL.rd ds hd⟩
 | .non,v,h=>by unfold aU at h;exact h.elim
 | .bl b,v,h=>by unfold aU at h;exact h.elim
 | .str x,v,h=>by unfold aU at h;exact h.elim
 | .lst ds,v,h=>by unfold aU at h;exact h.elim
theorem aL.rd{K:M6}:∀(ds:List Dt) {xs:List V},aL H ds xs->gY K H ds xs
 | [],xs,h=>by unfold aL at h;unfold gY;exact h
 |d::ds,xs,h=>by unfold aL at h;unfold gY;obtain⟨x,r,e0,h1,h2⟩:=h;exact⟨x,r,e0,aU.rd d h1,aL.rd ds h2⟩
end
theorem aL.cons{H:Hp}{d:Dt}{ds:List Dt}{x:V}{xs:List V}(h:aU H d x)(t:aL H ds xs):aL H (d::ds) (x::xs):=by unfold aL;exact⟨x,xs,rfl,h,t⟩
theorem aL.nil:aL H [] []:=by unfold aL;rfl
theorem aL.uncons{d:Dt}{ds:List Dt}{xs:List V}(h:aL H (d::ds) xs):∃x r,xs=x::r/\aU H d x/\aL H ds r:=by unfold aL at h;exact h
theorem aL.length:∀{ds:List Dt} {xs:List V},aL H ds xs->xs.length=ds.length
 | [],_,h=>by unfold aL at h;rw[h];rfl
 |d::ds,xs,h=>by
  obtain⟨x,r,rfl,_,h2⟩:=h.uncons;simp[aL.length h2]
theorem aL.app:∀{ds es:List Dt} {xs ys:List V},aL H ds xs->aL H es ys->aL H (ds++es) (xs++ys)
 | [],es,xs,ys,h,k=>by unfold aL at h;subst h;exact k
 |d::ds,es,xs,ys,h,k=>by
  obtain⟨x,r,rfl,h1,h2⟩:=h.uncons;exact aL.cons h1 (aL.app h2 k)
theorem aU.node{H:Hp}{i:Int}{ds:List Dt}{xs:List V}(h:H a=some (.tup (V.int i::xs)))(t:aL H ds xs):aU H (.tup (.int i::ds)) (.ref a):=by
 unfold aU;exact⟨a,_,rfl,h,aL.cons (by unfold aU;rfl) t⟩
theorem xE:∀{ns:List Int} {us:Na},bd (ns.map V.int) us->∃ps:List (Int×Tok),us.toArray=intItems ps.toArray/\ps.map (·.1)=ns
 | [],us,r=>⟨[],by have:=r.zero;subst this;simp[intItems],rfl⟩
 |n::ns,us,r=>by
  cases r with
  |cons h t=>
   obtain⟨tk,rfl⟩:=h;obtain⟨ps,e1,e2⟩:=xE t;refine⟨(n,tk)::ps,?_,by rw[MF,e2]⟩;have:=q0P Array.toList e1;unfold intItems at this ⊢;simp at this ⊢;exact this
section
variable {X:Cx}
theorem kP(hc:X.calm=true):gQ X (.builtin "sum") (λxs H Q=>∃(p:Addr) (ns:List Int),xs=[.ref p]/\aO X.K H p (ns.map V.int)/\Q (.int ns.sum) H):=by
 intro pins s σ H xs us Q I r h;obtain⟨p,ns,rfl,g,q⟩:=h;obtain⟨u,rfl,c⟩:=r.one;cases c;obtain⟨its,b,e,_⟩:=I.list g;obtain⟨ps,m,l⟩:=xE b;refine sum_intListG (xs:=ps.toArray) (I.ok.hd hc) (by rw[<- m];exact e.isList) λh' a t' j=>?_;have k:preSum (numAt ps.toArray) ps.toArray.size=ns.sum:=by
  rw[preSum_eq,q0F (by simp),<- l]
 rw[k];exact⟨.int _,H,I.kept (t':=a) j,⟨_,rfl⟩,q⟩
theorem uG:bootBuiltins "sum"=some (.builtin "sum"):=by decide +kernel
end
end L2
namespace L2
open PySem PySem.Spec PyProof.Rows QL bJ
theorem DW{α β:Type}{g:α->β}:∀(l:List α) (f':α->Option β),(∀k∈l,f' k=some (g k))->l.filterMap f'=l.map g
 | [],_,_=>rfl
 |a::l,f',h=>by
  rw[q0R,h a q0B,MF,DW l f' λk hk=>h k (Mr _ hk)]
section
variable {X:Cx}
def Dg(K:M6):R2:=λx y H Q=>∃a b xs ys,x=.ref a/\y=.ref b/\aS K H a xs/\aS K H b ys/\xs.length+ys.length<=sizeLine/\∀p H',aS K H' p (xs++ys)->aD H H'->Q (.ref p) H'
theorem AI:bg X (binaryOp .Add) (Dg X.K):=by
 intro c s σ H x y v u Q I rx ry h;obtain⟨a,b,B,L,rfl,rfl,r,o,U,q⟩:=h
 by_cases C:B=[]
 ·subst C
  cases rx;cases ry;obtain⟨m,O,S,_⟩:=I.tuple r;obtain⟨its2,r2,R,_⟩:=I.tuple o;have Z:m=[]:=O.zero;subst Z;obtain⟨⟨cls,dd,data,M⟩,D,J,n,G⟩:=id S;obtain⟨⟨cls2,w,data2,l⟩,g,k,T,j⟩:=id R;simp only at J G k j;subst J G k j;exact concat_meets ⟨_,D,rfl⟩ ⟨_,g,rfl⟩ noFill_tuple_add seq_tuple_add PySem.F.slot_tuple_add PySem.F.entry_tuple_add (PySem.F.args_tuple_add_2 _ _)
   (tuple_addW0 a b _ _ n T dd w M l (by rfl)) ⟨D,g,⟨.ref b,H,I,rfl,q b H (by rw[MV];exact o) (aD.refl _)⟩⟩
 ·refine dZ c s σ H _ _ v u Q I rx ry ⟨a,b,B,L,rfl,rfl,r,o,C,U,λe=>?_,λ_ p Y=>q p _ (aS.of ad) (ae Y)⟩
  refine q a H ?_ (aD.refl _);rw[e,MJ];exact r
variable {e st:Expr}{te ts:TE}{p2 pos:Pos}
end
abbrev mZ(a:Addr):Obj:={cls:=.type "tuple_iterator",data:=.fields #[.ref a,.int 0 0]}
abbrev u9(a:Addr):Obj:={cls:=.type "enumerate",data:=.fields #[.none,.bool false,.ref a,rawInt 0,.none,.none]}
set_option tactic.hygienic true in
theorem BB(a:Addr)(us:Array Value)(n:Nat)(dd:Nj)(ss:Array (Option Value)) :
  Meets (Builtin.«enumerate.__new__» ⟨[.type "enumerate",.ref a],[]⟩) (λ_ R s=>s.heap.get? a=some {cls:=.type "tuple",dict:=dd,data:=.seq us n,slots:=ss} /\
   R (.ok (.ret (.ref (s.heap.push (mZ a)).objs.size))) {s with heap:=(s.heap.push (mZ a)).push (u9 s.heap.objs.size)}):=
 .of_wp λprog w A R s h=>by
  obtain⟨h0,g0,d0,t0,o0⟩:=s;obtain⟨ea,h⟩:=h;have sb:=sub_enumerate;have isT:Heap.IsTuple (Shared.heap ⟨h0,g0,d0,t0,o0⟩) a us:=⟨_,ea,rfl,n,rfl⟩
  wp_walk using AutoSeq1.wpAny_loadPart' ea
  refine wpAny_stack_any λ_=>q05 ?_
  split
  ·rename_i cc _ _ _ _ _
   cases(cc==Value.type "enumerate")
   ·wp_walk using AutoSeq1.wpAny_loadPart' ea,wpAny_pyIter_tuple isT
    exact⟨_,rfl,h⟩
   ·wp_walk using AutoSeq1.wpAny_loadPart' ea,wpAny_pyIter_tuple isT
    exact⟨_,rfl,h⟩
  ·wp_walk using AutoSeq1.wpAny_loadPart' ea,wpAny_pyIter_tuple isT
   exact⟨_,rfl,h⟩
section
variable {prog:Nf}{w:Ni}{A:Nh}{E:M5}{s:M9}
theorem zN{Q:M5}(ha:s.heap.IsTuple a us)
  (h:∀h',IsEnum h' q⁻¹ s.heap.objs.size 0 .none->h'.IsTupleIter s.heap.objs.size a 0->(∀b o,s.heap.get? b=some o->h'.get? b=some o)->Q (.ref q⁻¹) {s with heap:=h' }) :
  wpAny d⁻¹ A (call (.type "enumerate") [.ref a]) Q E s:=by
 obtain⟨⟨c,p,dt,k⟩,m,j,n,g⟩:=ha;simp only at j g;subst j g;refine callType_new F.called_enumerate nofun (F.typeCall_enumerate_1 _) (F.newCall_enumerate_1 _) (λl=>F.args_object_init_2 l _) F.entry_enumerate_new (BB a us n p k) ⟨m,?_⟩;have sz:(s.heap.push (mZ a)).objs.size=s.heap.objs.size+1:=Heap.size_push ..;show _/\_;rw[sz];have e:IsEnum ((s.heap.push (mZ a)).push (u9 s.heap.objs.size)) q⁻¹ s.heap.objs.size 0 .none:=by
  have q:=Mg (s.heap.push (mZ a)) (o:=u9 s.heap.objs.size) rfl;rw[sz]at q;exact q
 exact⟨⟨_,e,rfl⟩,h _ e ⟨_,Ma _ (Mg _ rfl),rfl,rfl⟩ λb o q=>Ma _ (Ma _ q)⟩
theorem x8{i:Nat}{x:Value}{Q:M5}(ii:s.heap.IsTupleIter i0 a i)(ha:s.heap.IsTuple a us)(hx:us[i]?=some x)
  (q:∀h',h'.IsTupleIter i0 a (i+1)->Heap.SameBut i0 s.heap h'->Q x {s with heap:=h' }):wpAny d⁻¹ A (Builtin.SmallTypes.nextOf (.ref i0)) Q E s:=by
 obtain⟨oi,c,j,b⟩:=id ii;obtain⟨oa,e,_,na,g⟩:=ha;unfold Builtin.SmallTypes.nextOf;refine q04 (wpAny_callSpecial?_slot (name:=Str.ofString "__next__") ii.typeIs F.slot_tuple_iterator_next (wpAny_call_entry F.slot_tuple_iterator_next ii.typeIs F.entry_tuple_iterator_next ?_ (F.args_tuple_iterator_next_1 _)));show wpAny _ _ (field (.ref i0) 0 >>= _) _ _ s;refine q04 (wpAny_field c b (x:=.ref a) rfl ?_);show wpAny _ _ (if(Value.ref a==Value.none)=true then _ else _) _ _ s;rw[q06 (show ¬ ((Value.ref a==Value.none)=true) from MA)];show wpAny _ _ (field (.ref i0) 1 >>= _) _ _ s;refine q04 (wpAny_field c b (x:=.int i 0) rfl ?_);show wpAny _ _ (seqItems? (.ref a) >>= _) _ _ s;refine q04 (wpAny_seqItems e g ?_);simp only[Mj,hx];refine q04 (wpAny_setField c b (by simp) (q05 ⟨x,rfl,q05 (q _ ?_ (Heap.SameBut.update ..))⟩));exact⟨_,Ml _ c (Obj.isFreed_of_fields (Obj.data_mapFields b _)),(Obj.cls_mapFields ..).trans j,by rw[Obj.data_mapFields b];simp[rawInt]⟩
theorem Cw{i:Nat}{Q:M5}(hh:A.handled=none)(ii:s.heap.IsTupleIter i0 a i)(ha:s.heap.IsTuple a us)(hx:us[i]?=none)
  (q:∀h' e,Heap.ExtBut i0 s.heap h'->(∃o,h'.get? e=some o/\o.cls=.type "StopIteration")->E (.ref e) {s with heap:=h' }):wpAny d⁻¹ A (Builtin.SmallTypes.nextOf (.ref i0)) Q E s:=by
 obtain⟨oi,b,ci,c⟩:=id ii;obtain⟨oa,g,_,na,j⟩:=ha;unfold Builtin.SmallTypes.nextOf;refine q04 (wpAny_callSpecial?_slot (name:=Str.ofString "__next__") ii.typeIs F.slot_tuple_iterator_next (wpAny_call_entry F.slot_tuple_iterator_next ii.typeIs F.entry_tuple_iterator_next ?_ (F.args_tuple_iterator_next_1 _)));show wpAny _ _ (field (.ref i0) 0 >>= _) _ _ s;refine q04 (wpAny_field b c (x:=.ref a) rfl ?_);show wpAny _ _ (if(Value.ref a==Value.none)=true then _ else _) _ _ s;rw[q06 (show ¬ ((Value.ref a==Value.none)=true) from MA)];show wpAny _ _ (field (.ref i0) 1 >>= _) _ _ s;refine q04 (wpAny_field b c (x:=.int i 0) rfl ?_);show wpAny _ _ (seqItems? (.ref a) >>= _) _ _ s;refine q04 (wpAny_seqItems g j ?_);simp only[Mj,hx];refine q04 (wpAny_rule (q04 (wpAny_setField b c (by simp) ?_)));show wpAny _ _ (newExc (.type "StopIteration") [] >>= _) _ _ _;refine q04 ?_;simp only[newExc,newTuple];refine q04 (wpAny_newObj_type ?_ (by size_fits));refine q04 (m:=firstArgMember _ _) (wpAny_of_eq (a:=Value.none) (by first | rfl | (simp only[firstArgMember];rfl)) ?_);refine wpAny_newObj_type ?_ (by size_fits);simp only[raiseNew];refine q04 (wpAny_handled ?_)
 first | rw[show A.in1.handled=none from hh] | rw[hh]
 refine q04 (q05 (wpAny_throw ?_));exact q _ _ (((Heap.SameBut.update ..).extBut.push _).push _) ⟨_,Mg _ rfl,rfl⟩
end
theorem DI{prog:Nf}{A:Nh}(hh:A.handled=none)(i0 a:Addr)(hne:a≠i0)(us:Array Value) :
  Draws prog w A i0 [i0,a] us.size (λi v=>us[i]?=some v) (λi h=>h.IsTupleIter i0 a i/\h.IsTuple a us) where
 live:=λ_ _ st=>let ⟨o,ho,_⟩:=st.1;⟨o,ho⟩
 frame:=λ_ _ _ st kp=>⟨by obtain⟨o,ho,r⟩:=st.1;exact⟨o,kp i0 (by simp) o ho,r⟩,by obtain⟨o,ho,r⟩:=st.2;exact⟨o,kp a (by simp) o ho,r⟩⟩
 item:=λi s Q E hi st q=>by
  refine x8 st.1 st.2 (x:=us[i]) (by simp[hi]) λh' i1 sb=>?_;refine q _ h' s.toks (by simp[hi]) ⟨i1,?_⟩ sb;obtain⟨o,ho,r⟩:=st.2;exact⟨o,(sb.2 a hne).trans ho,r⟩
 done:=λs Q E st q=>Cw hh st.1 st.2 (by simp) q
def Hw(K:M6)(a:Addr):It:=
 ⟨λi H=>∃xs x,aS K H a xs/\xs[i]?=some x,λi H v H'=>∃T x,v=.ref T/\H T=none/\H'=aA H T (.tup [.int (i:Int),x])/\∀xs,aS K H a xs->xs[i]?=some x,λi H=>∃xs,aS K H a xs/\xs.length=i⟩
theorem xZ{K:M6}{elts:Nk}{tp:Pos}{e it l:Addr}(hei:e≠it)(hel:l≠e)(hil:l≠it) :
  rR P w K (.Tuple elts x1 tp) (Hw K l) [e,it] e (λi h=>(∃old,IsEnum h e it i old)/\h.IsTupleIter it l i) where
 mem:=by simp
 obj:=λi h j b C=>by
  obtain⟨⟨old,g⟩,⟨O,J,c1,d1⟩⟩:=j;simp only[Mq,List.not_mem_nil,or_false]at C;rcases C with rfl | rfl
  ·exact⟨_,g,λv q=>by cases q⟩
  ·exact⟨_,J,λv q=>by rw[d1]at q;cases q⟩
 keep:=λi h h' j B=>by
  obtain⟨⟨old,g⟩,⟨O,J,r⟩⟩:=j;exact⟨⟨old,B e (by simp) _ g⟩,⟨O,B it (by simp) _ J,r⟩⟩
 item:=by
  intro X Y T Z k i G s σ H E I hf j hg;subst Y T Z;obtain⟨xs,x,L,S⟩:=hg;obtain⟨a,M,p,hz⟩:=I.tuple L;obtain⟨u,hu,ru⟩:=M.get S;obtain⟨⟨old,g⟩,h1⟩:=j;obtain⟨O,J,_⟩:=id h1;have D:=DI (prog:=X.prog) (w:=X.w) (A:=X.A.in1) (I.ok.hd k) it l hil a.toArray;have n:i<a.toArray.size:=by rw[Mh];exact(L'.mp hu).1
  refine wpAny_pyNext_enum_itemD D g ⟨h1,p⟩ n hei (by simp[hei,Ne.symm hel]) λv h' tk hv a1 a2 a3 a4 B=>?_;have ev:v=u:=by
   have:a[i]?=some v:=by simpa using hv
   rw[hu]at this;exact(q0Q this).symm
  subst ev;refine⟨_,rfl,wpAny_letOwnedTupleGo_enum a1 λh2 U m=>?_⟩;have y:H s.heap.objs.size=none:=I.hok.fresh (My _);have lt:∀{c o},s.heap.get? c=some o->s.heap.objs.size≠c:=λe=>Nat.ne_of_gt (MB e);have kk:∀c o,c∉[e,it]->s.heap.get? c=some o->h2.get? c=some o:=λc o k q=>
   m.extBut _ _ (λz=>k (by simp[z])) (B c o (λz=>k (by simp[z])) (λz=>k (by simp[z])) q)
  have hT:h2.get? s.heap.objs.size=some {cls:=.type "tuple",data:=.seq #[.int i tk,v]}:=m.extBut _ _ (lt g) a3;refine⟨.ref s.heap.objs.size,aA H s.heap.objs.size (.tup [.int i,x]),I.movedT (tk:=tk+1) hf kk (My _) ⟨show 2<=sizeLine from by decide +kernel,[.int i tk,v],.cons ⟨_,rfl⟩ (.cons ru .nil),_,hT,rfl,_,rfl⟩,rfl,
   ⟨_,x,rfl,y,rfl,λzs R=>by rw[I.tuple_inj R L];exact S⟩,⟨⟨v,by simpa using U⟩,?_⟩,λb C=>?_⟩
  ·obtain⟨o2,e2,r⟩:=a2.1
   exact⟨o2,m.extBut _ _ (Ne.symm hei) e2,r⟩
  have n:b≠s.heap.objs.size:=by
   simp only[Mq,List.not_mem_nil,or_false]at C;rcases C with rfl | rfl
   ·exact(lt g).symm
   ·exact(lt J).symm
  rw[ao n];exact(hf b C).1
 done:=by
  intro X Y T Z k i G s σ H E I hf j hg;subst Y T Z;obtain⟨xs,L,S⟩:=hg;obtain⟨a,M,p,hz⟩:=I.tuple L;obtain⟨⟨old,g⟩,h1⟩:=j;have l1:=M.length;have D:=DI (prog:=X.prog) (w:=X.w) (A:=X.A.in1) (I.ok.hd k) it l hil a.toArray;have ei:i=a.toArray.size:=by rw[Mh];omega
  subst ei;exact wpAny_pyNext_enum_endD D g ⟨h1,p⟩ λh' B=>⟨rfl,I.moved (tk:=s.toks) hf λc o k e=>B c o (λq=>k (by simp[q])) e⟩
 self:=λ_ _ _ _ _ j h=>let ⟨⟨_,g⟩,_⟩:=j;wpAny_pyIter_enum g h
def yY(K:M6)(ta:TA):TI:=λσ H R=>ta σ H λvs H1=>∃a xs,vs=[.ref a]/\aS K H1 a xs/\R (Hw K a) H1
section
variable {X:Cx}{elts:Nk}{x1:Nat}{tp:Pos}
theorem EG{a:Expr}{ta:TA}{p pos:Pos}(hg:Gl X "enumerate")(hm:X.mg "enumerate"=none)(ha:PA X [a] ta)(hs:autoParam (starEach [a] X.env=[(false,eval a X.env)]) zz0._auto_1):PI X (.Tuple elts x1 tp) (.Call (.Name "enumerate" p) [a] [] pos) (yY X.K ta):=by
 intro c s σ H R I h;refine Call_ (fG I hg hm boot_enumerate (PyProof.Rows.callWith_type1 (bV (ha pos c s σ H _ I h) λus g ⟨vs,w,m,B,C⟩=>?_) (by rw[hs];rfl) (by rfl)));obtain⟨l,xs,rfl,D,q⟩:=C;obtain⟨u,rfl,y⟩:=B.one;cases y;obtain⟨its,rv,r,_⟩:=m.tuple D;have j:l<g.heap.objs.size:=by obtain⟨o,e,_⟩:=r;exact MB e
 refine zN r λJ n x G=>?_;have L:Inv X c σ w {g with heap:=J }:=m.kept (t':=g.toks) G;refine wpAny_pyIter_enum n ?_;refine⟨g.heap.objs.size+1,[g.heap.objs.size+1,g.heap.objs.size],_,_,w,rfl,L,xZ (l:=l) (Nat.ne_of_gt (MI _)) (Mu (Nat.lt_succ_of_lt j)) (Mu j),⟨⟨_,n⟩,x⟩,λb v=>?_,q⟩;have k:g.heap.objs.size<=b:=by
  simp only[Mq,List.not_mem_nil,or_false]at v;rcases v with e | e<;>(rw[e];first | exact My _ | exact Nat.le_add_right _ _)
 exact m.fpOk k (m.hok.fresh k)
end
section
variable {K:M6}{g:TG}{tb:TS}{D:iO}{σ:St}{H:Hp}
theorem zS{xs:List V}(Pv:Nat->St->Hp->Prop)(h0:Pv 0 σ H)(hl:∀i σ H,i<=xs.length->Pv i σ H->aS K H a xs)
  (hs:∀(i:Nat) x σ H T,xs[i]?=some x->Pv i σ H->H T=none->g (.ref T) σ (aA H T (.tup [.int (i:Int),x])) λσ2 H2=>tb {D with nx:=Pv (i+1),ct:=Pv (i+1),bk:=D.nx} σ2 H2) (hd:∀σ H,Pv xs.length σ H->D.nx σ H):u5 (Hw K a) g tb D σ H:=by
 refine⟨λi m σ H=>m=xs.length-i/\i<=xs.length/\Pv i σ H,⟨xs.length,by simp,Mz _,h0⟩,?_⟩;rintro i m σ H ⟨rfl,c,p⟩;have q:=hl i σ H c p
 by_cases b:i<xs.length
 ·refine .inr ⟨⟨xs,xs[i],q,by simp[b]⟩,Pv (i+1),λσ' k p'=>⟨xs.length-(i+1),⋯,rfl,b,p'⟩,λx k y=>?_⟩
  obtain⟨T,x,rfl,j,rfl,y⟩:=y;exact hs i x σ _ T (y xs q) p j
 ·have e:i=xs.length:=by omega
  subst e;exact .inl ⟨⟨xs,q,rfl⟩,hd σ H p⟩
end
section
variable {prog:Nf}{w:Ni}{A:Nh}{E:M5}{s:M9}
open HT in
theorem kU{t sl:Addr}{items:Array Value}{vl vu:Value}{lo hi:Option Int}{Q:M5}(ht:IsTup s.heap t items)(hs:s.heap.IsSliceOf sl vl vu .none)(pl:IsPart vl lo)(pu:IsPart vu hi)
  (hw:sIx items.size 0 lo=0/\sIx items.size items.size hi=items.size) (h:Q (.ref t) s):wpAny d⁻¹ A (getItem (.ref t) (.ref sl)) Q E s:=by
 obtain⟨g,b,c,hds⟩:=id hs;have e:s.TypeIs (.ref sl) "slice":=⟨g,b,c⟩;unfold getItem
 try with_reducible refine q0U ?_
 first | refine q04 (q05 ?_) | skip
 refine q04 (wpAny_sequenceKey ht.typeIs nofun ?_);refine q04 (wpAny_callSpecial?_slot (name:=Str.ofString "__getitem__") ht.typeIs PyProof.Rows.slot_tuple_getitem
  (wpAny_call_entry PyProof.Rows.slot_tuple_getitem ht.typeIs entry_tuple_getitem ?_ (args_tuple_getitem _ _)))
 show wpAny _ _ (Builtin.Tuple.tupleItemsOf (.ref t) >>= _) _ _ s;refine q04 (tupleItemsOf_ ht ?_);refine q04 (wpAny_typeOf e ?_);rw[q07 nofun];refine q04 (iS hs pl pu ?_);have a:(((sIx items.size 0 lo:Nat):Int)==0&&(1:Int)==1&&(sIx items.size items.size hi-sIx items.size 0 lo)==items.size)=true:=by
  rw[hw.1,hw.2];simp
 show wpAny _ _ (if(((sIx items.size 0 lo:Nat):Int)==0&&(1:Int)==1&&(sIx items.size items.size hi-sIx items.size 0 lo)==items.size)=true then _ else _) _ _ s;rw[q07 a];refine q04 ?_;unfold Builtin.Tuple.tupleIsExact;refine q04 (wpAny_typeOf ht.typeIs ?_);refine q05 ?_;rw[q07 nofun];refine q04 (wpAny_rule ?_);exact q05 ⟨_,rfl,q05 h⟩
end
def Hk(K:M6):V->Option Int->Option Int->Hp->VK->Prop:=λx lo hi H Q=>∃a xs,x=.ref a/\aS K H a xs/\∀p H',aS K H' p (lX xs lo hi)->aD H H'->Q (.ref p) H'
section
variable {X:Cx}
theorem Ay:HU X (Hk X.K):=by
 intro pins s σ H x v vl vu lo hi sl Q I rx hs pl pu h;obtain⟨a,g,rfl,n,q⟩:=h;cases rx;obtain⟨k,r,l,m⟩:=I.tuple n;have c:k.toArray.size=g.length:=by rw[Mh];exact r.length.symm
 refine⟨"tuple",_,PyProof.Rows.slot_tuple_getitem.lookup,l.typeIs,?_⟩
 by_cases j:HT.sIx g.length 0 lo=0/\HT.sIx g.length g.length hi=g.length
 ·refine kU l hs pl pu (by rw[c];exact j) ?_
  refine⟨.ref a,H,I,rfl,q a H ?_ (aD.refl _)⟩;have e:lX g lo hi=g:=by unfold lX;rw[j.1,j.2,M4,Nat.sub_zero,MM]
  rw[e];exact n
 ·refine HT.getItem_tuple_cut l hs pl pu (by rw[c];exact j) ?_ (by rw[c];exact m)
  rw[c];refine⟨.ref s.heap.objs.size,_,I.laid (t':=s.toks) (o:=.tup (lX g lo hi)) (λb ob q=>Ma _ q) (My _) ?_,rfl,q _ _ (aS.of ad) (ae (I.hok.fresh (My _)))⟩;exact⟨MG (ke g lo hi) m,_,(r.drop (HT.sIx g.length 0 lo)).take (HT.sIx g.length g.length hi-HT.sIx g.length 0 lo),IsTup.new _ _⟩
end
theorem Jq{P:Addr->Prop}:(∃p,V.ref a=V.ref p/\P p)=P a:=by simp
theorem I0{a:Int}{P:Int->Prop}:(∃p,V.int a=V.int p/\P p)=P a:=by simp
theorem Jg{P:Bool->Prop}:(∃p,V.bl a=V.bl p/\P p)=P a:=by simp
theorem Jb{P:Str->Prop}:(∃p,V.str a=V.str p/\P p)=P a:=by simp
theorem IY{α:Type}{P:Addr->α->Prop}:(∃p,∃x,V.ref a=V.ref p/\P p x) = ∃x,P a x:=by simp
theorem IX{α:Type}{P:Addr->α->Prop}:(∃p,∃x,[V.ref a]=[V.ref p]/\P p x) = ∃x,P a x:=by simp
theorem Jd{α:Type}{v:V}{P:Addr->α->V->Prop}:(∃p,∃x,∃y,V.ref a=V.ref p/\[v]=[y]/\P p x y) = ∃x,P a x v:=by simp
theorem Jl{α β:Type}{P:Addr->Addr->α->β->Prop}:(∃p,∃q,∃x,∃y,V.ref a=V.ref p/\V.ref b=V.ref q/\P p q x y) = ∃x,∃y,P a b x y:=by simp
def IR(i:Nat):TE:=λσ H Q=>match σ[i]? with
 |some (some v)=>Q v H
 |_=>False
def Fh(g:Int->Int->V):R2
 | .int i,.int j,H,Q=>Q (g i j) H
 |x,y,H,Q=>Cn g x y H Q
def IV(C:Int->Int->Prop)(g:Int->Int->V):R2
 | .int i,.int j,H,Q=>C i j/\Q (g i j) H
 |x,y,H,Q=>rI C g x y H Q
def Ap(K:M6):R2
 | .ref p,.int i,H,Q=>∃xs,aO K H p xs/\∃v,gj xs i=some v/\Q v H
 |x,y,H,Q=>BA K x y H Q
def zX(K:M6):R2
 | .ref p,.int i,H,Q=>∃xs,aS K H p xs/\∃v,gj xs i=some v/\Q v H
 |x,y,H,Q=>Ch K x y H Q
theorem Dl:Fh g x y H Q=Cn g x y H Q:=by
 unfold Fh;split
 ·simp[Cn]
 ·rfl
theorem GI:IV C g x y H Q=rI C g x y H Q:=by
 unfold IV;split
 ·simp[rI]
 ·rfl
theorem AA{K:M6}:Ap K x y H Q=BA K x y H Q:=by
 unfold Ap;split
 ·simp[BA]
 ·rfl
theorem z_{K:M6}:zX K x y H Q=Ch K x y H Q:=by
 unfold zX;split
 ·simp[Ch]
 ·rfl
theorem Fl{i j:Int}{H:Hp}:Fh g (.int i) (.int j) H Q=Q (g i j) H:=rfl
theorem Hu{i j:Int}{H:Hp}:IV C g (.int i) (.int j) H Q=(C i j/\Q (g i j) H):=rfl
theorem EL{K:M6}{i:Int}{H:Hp}:Ap K (.ref p) (.int i) H Q = ∃xs,aO K H p xs/\∃v,gj xs i=some v/\Q v H:=rfl
theorem D5{K:M6}{i:Int}{H:Hp}:zX K (.ref p) (.int i) H Q = ∃xs,aS K H p xs/\∃v,gj xs i=some v/\Q v H:=rfl
theorem J0{α β:Type}{f:α->β}{a:α}{l:List α}:List.map f (a::l)=f a::List.map f l:=rfl
theorem Lw{α β:Type}{f:α->β}:List.map f []=[]:=rfl
theorem Lv{α:Type}{a:α}{l m:List α}:(a::l)++m=a::(l++m):=rfl
theorem LI{α:Type}{m:List α}:[]++m=m:=rfl
theorem KS{α:Type}{a:α}{l:List α}:(a::l)[0]?=some a:=rfl
theorem L0{α:Type}{a:α}{l:List α}{n:Nat}:(a::l)[n+1]?=l[n]?:=rfl
theorem Lg{α:Type}{a b:α}{l:List α}:(a::l).set 0 b=b::l:=rfl
theorem LQ{α:Type}{a b:α}{l:List α}{n:Nat}:(a::l).set (n+1) b=a::l.set n b:=rfl
section
variable {X:Cx}
theorem al(i:Nat){x:Str}{pos:Pos}(hN:autoParam (X.N[i]?=some x) zz0._auto_1)(hv:autoParam (IN X.env.scope x) zz6._auto_1)(hd:autoParam j⁻¹ zz1._auto_1)
  (hc:autoParam ((x==("__classdict__":Str))=false) zz1._auto_1):PE X (.Name x pos) (IR i):=λpins s σ H Q I h=>pv i hN hv hd hc pins s σ H Q I (by
 unfold IR at h
 split at h
 ·exact⟨_,‹_›,h⟩
 ·exact h.elim)
theorem bg.m0{f:Value->Value->Sem Value}(h:bg X f (Cn g)):bg X f (Fh g):=λpins s σ H x y v u Q I a b c=>h pins s σ H x y v u Q I a b (Dl▸c)
theorem bg.m1{f:Value->Value->Sem Value}(h:bg X f (rI C g)):bg X f (IV C g):=λpins s σ H x y v u Q I a b c=>h pins s σ H x y v u Q I a b (GI▸c)
theorem aQ:G1 X (Ap X.K):=λe sl pins s σ H x y v u Q I a b c d=>wg e sl pins s σ H x y v u Q I a b (AA▸c) d
theorem aw:G1 X (zX X.K):=λe sl pins s σ H x y v u Q I a b c d=>Dz e sl pins s σ H x y v u Q I a b (z_▸c) d
end
section
variable {prog:Nf}{w:Ni}{A:Nh}{E:M5}{s:M9}
theorem sM{a b:Int}{t u:Tok}{Q:M5}(hh:A.handled=none)(hl:s.heap.IsTuple l (intItems #[(a,t),(b,u)]))
  (h:∀h' tk,(∀c o,s.heap.get? c=some o->h'.get? c=some o)->Q (if b>a then .int b u else .int a t) {s with heap:=h',toks:=tk}) :
  wpAny d⁻¹ A (call (.builtin "max") [.ref l]) Q E s:=by
 have p:l<s.heap.objs.size:=by obtain⟨_,e,_⟩:=hl;exact MB e
 refine call_max_walk (wpAny_pyIter_tuple hl ?_);refine⟨_,[_,l],[_],_,_,_,_,rfl,Walks.tuple (A:=A.in1) hh _ l (Mu p) (intItems #[(a,t),(b,u)]),
  ⟨⟨_,Mg _ rfl,rfl,rfl⟩,hl.push _⟩,λc hc=>?_,by simp[intItems],CmpOf.ints_gt (numAt #[(a,t),(b,u)]) (λ_ _=>intItems_at),λv h' tk x r=>?_⟩
 ·show c<(s.heap.push _).objs.size
  rw[Heap.size_push];rcases Mq.mp hc with rfl | hc
  ·exact MI _
  ·rcases Mq.mp hc with rfl | hc
   ·exact Nat.lt_succ_of_lt p
   ·cases hc
 ·have n:∀c o,s.heap.get? c=some o->h'.get? c=some o:=λc o e=>by
   refine r c o (λhm=>?_) (Ma _ e);rcases Mq.mp hm with y | hm
   ·have:=MB e;rw[y]at this;exact MH _ this
   ·cases hm
  have:=h h' tk n;have q:v=if b>a then Value.int b u else Value.int a t:=by
   have k:(intItems #[(a,t),(b,u)])[argBest (λi j=>decide (numAt #[(a,t),(b,u)] i>numAt #[(a,t),(b,u)] j)) 1]?=some v:=by
    have m:(intItems #[(a,t),(b,u)]).size-1=1:=by simp[intItems]
    rw[<- m];exact x
   by_cases g:b>a
   ·have e:argBest (λi j=>decide (numAt #[(a,t),(b,u)] i>numAt #[(a,t),(b,u)] j)) 1=1:=by simp[argBest,numAt,g]
    rw[e]at k
    simpa[intItems,g]using k.symm
   ·have e:argBest (λi j=>decide (numAt #[(a,t),(b,u)] i>numAt #[(a,t),(b,u)] j)) 1=0:=by simp[argBest,numAt,g]
    rw[e]at k
    simpa[intItems,g]using k.symm
  rw[q];exact this
end
def ES(K:M6):List V->Hp->VK->Prop:=λxs H Q=>∃p i j,xs=[.ref p]/\aS K H p [.int i,.int j]/\Q (.int (if j>i then j else i)) H
section
variable {X:Cx}
theorem BU(hc:X.calm=true):gQ X (.builtin "max") (ES X.K):=by
 intro pins s σ H xs us Q I r h;obtain⟨p,i,j,rfl,y,q⟩:=h;obtain⟨u,rfl,x⟩:=r.one;cases x;obtain⟨its,w,⟨o,e,g,n,hd⟩,_⟩:=I.tuple y;obtain⟨v,v',rfl,⟨t,rfl⟩,⟨m,rfl⟩⟩:=Ig w;refine sM (l:=p) (a:=i) (b:=j) (t:=t) (u:=m) (I.ok.hd hc) ⟨o,e,g,n,by rw[hd];simp[intItems]⟩ λh' tk k=>⟨_,H,I.kept k,?_,q⟩
 by_cases c:j>i
 ·rw[q07 c,q07 c];exact⟨_,rfl⟩
 ·rw[q06 c,q06 c];exact⟨_,rfl⟩
end
def Ie(o:Obj):Option HO->Option HO
 |some (.lst xs)=>some (.frz o (.lst xs))
 |u=>u
def cS(H:Hp)(ls:Nb)(os:Addr->Obj):Hp:=λb=>if b∈ls then Ie (os b) (H b) else H b
theorem gE{H:Hp}{ls:Nb}{os:Addr->Obj}{u:HO}(h:H b=some u)(hn:b∉ls\/∀xs,u≠.lst xs):cS H ls os b=some u:=by
 unfold cS
 split
 ·rename_i hb
  rcases hn with hn | hn
  ·exact q0O hb hn
  ·rw[h]
   cases u<;>first | rfl | exact q0O rfl (hn _)
 ·exact h
theorem Do{ls:Nb}{os:Addr->Obj}:cS H ls os b=none↔H b=none:=by
 unfold cS
 split
 ·cases h:H b with
  |none=>exact⟨λ_=>rfl,λ_=>rfl⟩
  |some u=>cases u<;>simp[Ie]
 ·exact Iff.rfl
theorem x5{H:Hp}{ls:Nb}{os:Addr->Obj}(h:H b=some (.lst xs))(hb:b∈ls):cS H ls os b=some (.frz (os b) (.lst xs)):=by
 unfold cS;rw[q07 hb,h];rfl
section
variable {X:Cx}{pins:M7}{σ:St}{H:Hp}{s:M9}
theorem Inv.freeze(I:Inv X pins σ H s){ls:Nb}(hl:∀l∈ls,∃xs,H l=some (.lst xs)):∃os,Inv X pins σ (cS H ls os) s:=by
 refine⟨λb=>(s.heap.get? b).getD default,?_⟩;generalize j:(λb=>(s.heap.get? b).getD default:Addr->Obj)=os;have old:∀b u,H b=some u->(∀xs,u≠.lst xs)->cS H ls os b=some u:=λb u h x=>gE h (.inr x);have hok:kS X.prog X.w (cS H ls os) s.heap:=λb u e=>by
  by_cases k:b∈ls
  ·obtain⟨xs,m⟩:=hl b k
   rw[x5 m k]at e;cases e;have p:=I.hok b _ m;obtain⟨z,a,n,r,g⟩:=p;refine⟨?_,z,a,n,r,g⟩;rw[<- j];show s.heap.get? b=some ((s.heap.get? b).getD default);rw[g];rfl
  ·unfold cS at e
   rw[q06 k]at e;exact(I.hok b u e).stay (λc v _ q=>q) (λc q=>old c _ q (by intro xs z;cases z)) λc xs q=>old c _ q (by intro xs z;cases z)
 have un:Un X.fs [] H (cS H ls os) s.heap s.heap:=⟨λb o e _ _ _=>e,λb o e _ _ _=>⟨o.slots,e⟩,λb o _ n _=>Do.mpr n,λb o e _=>⟨o,e⟩,λb xs e=>old b _ e (by intro xs z;cases z),λb o u e=>old b _ e (by intro xs z;cases z),λb ps e=>⟨#[],by rw[old b _ e (by intro xs z;cases z)];simp⟩⟩;exact I.un (h':=s.heap) (t':=s.toks) un hok
def Hl(t:TS):TS:=λD σ H=>t {D with nx:=λσ' H'=>∃ls:List Addr,(∀l∈ls,∃xs,H' l=some (.lst xs))/\∀os,D.nx σ' (cS H' ls os)} σ H
theorem GR{st:Stmt}{t:TS}(h:PS X st t):PS X st (Hl t):=by
 intro a s σ H D I q;refine bV (h a s σ H _ I q) λf s' b=>?_;cases f with
 |next=>
  obtain⟨σ',H',k,ls,g,c⟩:=b;obtain⟨e,j⟩:=k.freeze g;exact⟨σ',_,j,c e⟩
 |brk=>exact b
 |cont=>exact b
 |ret u=>exact b
end
def IK(_ j:Int):Prop:=0<j/\j.natAbs.log2<9000
section
variable {X:Cx}
theorem Ej:bg X (binaryOp .FloorDiv) (rI IK λi j=>.int (i/j)):=IS λi j _ _ _ _ _ hc q=>by
 have h1:(0:Int)<j:=hc.1;exact floordiv_int ⋯ (by rw[Int.fdiv_eq_ediv_of_nonneg i ⋯];exact q) (.inl (PyProof.noPylong_of_log2 hc.2))
end
def pK(rss tss:List (List V)):Bool:=if rss.length=tss.length then(List.range rss.length).all (λj=>match rss[j]?,tss[j]? with | some x,some y=>fA x y | _,_=>true) else false
def HV(K:M6)(H:Hp)(l:Addr)(rss:List (List V)):Prop:=∃bs:List Addr,aO K H l (bs.map V.ref)/\bs.length=rss.length/\∀(i:Nat) b r,bs[i]?=some b->rss[i]?=some r->aS K H b r/\r.all jy=true
theorem tK{xs:List V}(h:xs.all jy=true):fA xs xs=true:=by
 unfold fA;rw[q0M,MS];refine⟨λj a=>?_,by simp⟩;have a:=List.mem_range.mp a;rw[L_ ⋯];dsimp only;have b:=MS.mp h _ (Mi (show j<xs.length by omega));generalize xs[j]'⋯=x at b;cases x<;>simp_all [jy,nB]
section
variable {X:Cx}{pins:M7}{σ:St}{H:Hp}{s:M9}{A:Nh}
theorem Gj(I:Inv X pins σ H s){a b:Addr}{xs ys:List V}(hu:A.units<cLine)(ha:aS X.K H a xs)(hb:aS X.K H b ys)(fx:xs.all jy=true)(fy:ys.all jy=true):SeqAt.EqAt A s (.ref a) (.ref b) (fA xs ys):=by
 by_cases k:a=b
 ·subst k
  rw[I.tuple_inj ha hb,tK fy];exact SeqAt.EqAt.same _
 obtain⟨g,u,D,_⟩:=I.tuple ha;obtain⟨c,r,C,_⟩:=I.tuple hb;have J:=u.length;have G:=r.length
 have v:=SeqAt.RcAt.tuples (A:=A) (s:=s) (e:=λj=>match xs[j]?,ys[j]? with | some x,some y=>nB x y | _,_=>true) (show s.heap.IsTuple a g.toArray from D) (show s.heap.IsTuple b c.toArray from C) hu (λj M L=>by
  have q:j<g.length:=by simpa using M
  have p:j<c.length:=by simpa using L
  have m:xs[j]?=some xs[j]:=L_ ⋯;have l:ys[j]?=some ys[j]:=L_ ⋯;obtain⟨w1,B,o⟩:=u.get m;obtain⟨w2,w,n⟩:=r.get l;rw[L_ q]at B;rw[L_ p]at w;cases B;cases w
  simp only[MU,m,l];exact gP o n (MS.mp fx _ (Me m)) (MS.mp fy _ (Me l)))
 rw[Mh,Mh,<- J,<- G]at v;exact SeqAt.EqAt.of_refs k v
theorem tF{rss:List (List V)}(h:∀r∈rss,r.all jy=true):pK rss rss=true:=by
 unfold pK;rw[q07 rfl,MS];intro j a;have a:=List.mem_range.mp a;rw[L_ a];exact tK (h _ (Mi a))
theorem H_(I:Inv X pins σ H s){a b:Addr}{rss tss:List (List V)}(hu:A.units+1<cLine)(ha:HV X.K H a rss)(hb:HV X.K H b tss):SeqAt.EqAt A s (.ref a) (.ref b) (pK rss tss):=by
 obtain⟨g,p,o,c⟩:=ha;obtain⟨bs,m,B,l⟩:=hb
 by_cases n:a=b
 ·subst n
  have e:=I.list_inj p m;have e2:g=bs:=by
   have:g.map V.ref=bs.map V.ref:=e;clear e p o c m B l
   induction g generalizing bs with
   |nil=>cases bs with
    |nil=>rfl
    |cons _ _=>cases this
   |cons x g ih=>cases bs with
    |nil=>cases this
    |cons y bs=>
     rw[MF,MF]at this
     injection this with h1 h2
     injection h1 with h1
     rw[h1,ih bs h2]
  subst e2;have e3:rss=tss:=by
   apply List.ext_getElem
   ·omega
   ·intro i i1 i2
    have h1:=c i _ _ (L_ (by omega:i<g.length)) (L_ i1);have h2:=l i _ _ (L_ (by omega:i<g.length)) (L_ i2);exact I.tuple_inj h1.1 h2.1
  subst e3;rw[tF λr hr=>by
   obtain⟨i,U⟩:=List.getElem?_of_mem hr;exact(c i _ _ (L_ (by rw[o];exact(L'.mp U).1)) U).2]
  exact SeqAt.EqAt.same _
 obtain⟨u,L,R,_⟩:=I.list p;obtain⟨k,J,O,_⟩:=I.list m;have S:=L.length;have l2:=J.length
 rw[Mb]at S l2;unfold pK
 by_cases T:rss.length=tss.length
 ·rw[q07 T]
  have q:=SeqAt.RcAt.lists (A:=A) (s:=s) (e:=λj=>match rss[j]?,tss[j]? with | some x,some y=>fA x y | _,_=>true) R.isList O.isList (by simp;omega) ⋯ λj g1 g2=>by
   have D:j<u.length:=by simpa using g1
   have C:j<k.length:=by simpa using g2
   have x1:(g.map V.ref)[j]?=some (V.ref (g[j]'⋯)):=by rw[Md,L_ ⋯];rfl
   have y1:(bs.map V.ref)[j]?=some (V.ref (bs[j]'⋯)):=by rw[Md,L_ ⋯];rfl
   obtain⟨w1,Z,w⟩:=L.get x1;obtain⟨w2,Y,v⟩:=J.get y1;rw[L_ D]at Z;rw[L_ C]at Y;cases Z;cases Y
   have M:rss[j]?=some (rss[j]'⋯):=L_ _;have G:tss[j]?=some (tss[j]'⋯):=L_ _;obtain⟨h1,h2⟩:=c j _ _ (L_ ⋯) M;obtain⟨h3,h4⟩:=l j _ _ (L_ ⋯) G;simp only[MU];rw[show u[j]=Value.ref (g[j]'⋯) from w,show k[j]=Value.ref (bs[j]'⋯) from v,M,G];exact Gj I (by show A.units+1<cLine;exact hu) h1 h3 h2 h4
  rw[Mh,<- S,o]at q;exact SeqAt.EqAt.of_refs n q
 ·rw[q06 T]
  exact SeqAt.EqAt.of_refs n (SeqAt.RcAt.lists_lengths (A:=A) (s:=s) R.isList O.isList (by simp;omega) ⋯)
end
section
variable {X:Cx}
def GW(K:M6):R2:=λx y H Q=>∃a b i j la lb rss tss,x=.ref a/\y=.ref b/\aS K H a [.int i,.ref la]/\aS K H b [.int j,.ref lb]/\HV K H la rss/\HV K H lb tss/\Q (.bl (decide (i=j)&&pK rss tss)) H
theorem Hy(hu:X.A.units+64<cLine):bg X (compareOp .Eq) (GW X.K):=by
 intro pins s σ H x y v u Q I rx ry h;obtain⟨a,b,i,j,C,B,g,c,rfl,rfl,M,L,r,p,q⟩:=h;cases rx;cases ry
 obtain⟨its,m,J,_⟩:=I.tuple M;obtain⟨its2,l,G,_⟩:=I.tuple L;cases m with
 |cons q1 m=>
 cases m with
 |cons q2 m=>
 cases m;cases l with
 |cons p1 l=>
 cases l with
 |cons p2 l=>
 cases l;obtain⟨o,rfl⟩:=q1;obtain⟨n,rfl⟩:=p1;obtain rfl:=q2;obtain rfl:=p2;have D:=SeqAt.RcAt.tuples (A:=X.A) (s:=s) (e:=λk=>if k=0 then decide (i=j) else pK g c) (show s.heap.IsTuple a _ from J) (show s.heap.IsTuple b _ from G) ⋯ (λk O g2=>by
  have w:k<2:=by simpa using O
  match k,w with
  |0,_=>
   have h1:bi (V.int i) (.int i o):=⟨o,rfl⟩;have h2:bi (V.int j) (.int j n):=⟨n,rfl⟩;have:=gP (A:=X.A.in1) (s:=s) h1 h2 rfl rfl;rw[show nB (V.int i) (V.int j)=decide (i=j) by simp[nB];rfl]at this;exact this
  |1,_=>exact H_ I (by show X.A.units+1+1<cLine;omega) r p)
 refine D _ _ _ _ ⟨.bl _,H,I,rfl,?_⟩;have e:(((List.range (min [Value.int i o,Value.ref C].toArray.size [Value.int j n,Value.ref B].toArray.size)).all λk=>if k=0 then decide (i=j) else pK g c)&&[Value.int i o,Value.ref C].toArray.size==[Value.int j n,Value.ref B].toArray.size)=(decide (i=j)&&pK g c):=by
  show(([0,1].all λk=>if k=0 then decide (i=j) else pK g c)&&true)=_;simp
 rw[e];exact q
end
section
variable {prog:Nf}{w:Ni}{A:Nh}{E:M5}{s:M9}
theorem yC{t:Addr}{its}{x:Value}{Q:M5}(hj:s.heap.IsTupleIter j t n)(ht:s.heap.IsTuple t its)(hx:its[n]?=some x)
  (q:∀h',h'.IsTupleIter j t (n+1)->Heap.SameBut j s.heap h'->Q x {s with heap:=h' }):wpAny d⁻¹ A (Builtin.SmallTypes.nextOf (.ref j)) Q E s:=by
 obtain⟨oj,b,e,a⟩:=id hj;obtain⟨ot,et,_,m,c⟩:=ht
 unfold Builtin.SmallTypes.nextOf;refine q04 (wpAny_callSpecial?_slot (name:=Str.ofString "__next__") hj.typeIs F.slot_tuple_iterator_next (wpAny_call_entry F.slot_tuple_iterator_next hj.typeIs F.entry_tuple_iterator_next ?_ (F.args_tuple_iterator_next_1 _)))
 show wpAny _ _ (field (.ref j) 0 >>= _) _ _ s;refine q04 (wpAny_field b a (x:=.ref t) rfl ?_)
 show wpAny _ _ (if(Value.ref t==Value.none)=true then _ else _) _ _ s;rw[q06 (show ¬ ((Value.ref t==Value.none)=true) from MA)]
 show wpAny _ _ (field (.ref j) 1 >>= _) _ _ s;refine q04 (wpAny_field b a (x:=.int n 0) rfl ?_)
 show wpAny _ _ (seqItems? (.ref t) >>= _) _ _ s;refine q04 (wpAny_seqItems et c ?_)
 simp only[Mj,hx];refine q04 (wpAny_setField b a (by simp) (q05 ⟨x,rfl,q05 (q _ ?_ (Heap.SameBut.update ..))⟩))
 exact⟨_,Ml _ b (Obj.isFreed_of_fields (Obj.data_mapFields a _)),(Obj.cls_mapFields ..).trans e,by rw[Obj.data_mapFields a];simp[rawInt]⟩
theorem yQ{z TI TO t:Addr}{x y:Value}{Q:Option Value->Shared->Prop}(D:ZipApart z TI TO i1 i2 l t)(z0:IsZip s.heap z TI TO .none)(p0:IsPair s.heap TI (.ref i1) (.ref i2))(o0:IsPair s.heap TO a b)
  (j1:s.heap.IsListIter i1 l k) (j2:s.heap.IsTupleIter i2 t n) (hl:s.heap.IsList l xs) (ht:s.heap.IsTuple t ys) (hx:xs[k]?=some x) (hy:ys[n]?=some y)
  (q:∀h',IsZip h' z TI TO (rawInt s.heap.objs.size)->IsPair h' TO x y->h'.IsListIter i1 l (k+1)->h'.IsTupleIter i2 t (n+1)->IsPair h' s.heap.objs.size x y->(∀c o,c≠z->c≠TO->c≠i1->c≠i2->s.heap.get? c=some o->h'.get? c=some o)->Q (some r⁻¹) {s with heap:=h' }) :
  wpAny d⁻¹ A (pyNext (.ref z)) Q E s:=by
 have ty:s.TypeIs (.ref z) "zip":=⟨_,z0,rfl⟩;unfold pyNext;refine q04 (wpAny_attempt (wpAny_callSpecial?_slot (name:=Str.ofString "__next__") ty F.slot_zip_next (wpAny_call_entry F.slot_zip_next ty F.entry_zip_next ?_ (F.args_zip_next_1 _))))
 show wpAny _ _ (field (.ref z) 2 >>= _) _ _ s;refine q04 (wpAny_field z0 rfl (x:=.bool false) rfl ?_)
 show wpAny _ _ (field (.ref z) 3 >>= _) _ _ s;refine q04 (wpAny_field z0 rfl (x:=.ref TI) rfl (q04 (wpAny_seqItems p0 rfl ?_)))
 show wpAny _ _ (Builtin.SmallTypes.ownedTupleIsFree (.ref z) >>= _) _ _ s;refine q04 ?_;unfold Builtin.SmallTypes.ownedTupleIsFree;refine q04 (wpAny_field z0 rfl (x:=.none) rfl (q05 ?_))
 simp only[if_true];refine q04 (wpAny_rule (q04 (wpAny_field z0 rfl (x:=.ref TO) rfl ?_)))
 refine q04 (wpAny_setField_rec z0 (by simp) λg1 M j=>?_);replace M:IsZip g1 z TI TO .ellipsis:=M
 refine q04 ?_;simp only[List.zipIdx_cons,List.zipIdx_nil,List.forIn_cons,List.forIn_nil];refine q04 (q04 (wpAny_onRaise ?_))
 show wpAny _ _ (Builtin.SmallTypes.nextOf (.ref i1) >>= _) _ _ _;refine q04 (wpAny_nextOf_list_item (j1.extBut j.extBut D.i1z) (hl.extBut j.extBut D.l1z) hx λg2 U u=>q05 ?_)
 have o2:IsPair g2 TO a b:=u.extBut _ _ D.TOi1 (j.extBut _ _ D.TOz o0);refine q04 (wpAny_seqItems o2 rfl (q04 (wpAny_updateSeq_pair o2 λg3 O p=>?_)));replace O:IsPair g3 TO x b:=O
 refine q04 (wpAny_letGo (q05 (q04 (q04 (wpAny_onRaise ?_)))));show wpAny _ _ (Builtin.SmallTypes.nextOf (.ref i2) >>= _) _ _ _;refine q04 (yC (((j2.extBut j.extBut D.i2z).extBut u.extBut D.i12.symm).extBut p.extBut D.TOi2.symm) (((ht.extBut j.extBut D.l2z).extBut u.extBut D.l2i1).extBut p.extBut D.l2TO) hy λg4 S B=>q05 ?_);have o4:IsPair g4 TO x b:=B.extBut _ _ D.TOi2 O;refine q04 (wpAny_seqItems o4 rfl (q04 (wpAny_updateSeq_pair o4 λg G v=>?_)));replace G:IsPair g TO x y:=G
 refine q04 (wpAny_letGo (q05 (q05 (q04 (wpAny_seqItems G rfl (q04 (wpAny_newTuple ?_)))))));have sz:g.objs.size=s.heap.objs.size:=by rw[v.1,B.1,p.1,u.1,j.1]
 have z5:IsZip g z TI TO .ellipsis:=v.extBut _ _ D.TOz.symm (B.extBut _ _ D.i2z.symm (p.extBut _ _ D.TOz.symm (u.extBut _ _ D.i1z.symm M)));have k5:∀c o,c≠z->c≠TO->c≠i1->c≠i2->s.heap.get? c=some o->g.get? c=some o:=λc o m J Z Y e=>v.extBut _ _ J (B.extBut _ _ Y (p.extBut _ _ J (u.extBut _ _ Z (j.extBut _ _ m e))));have T:g.IsListIter i1 l (k+1):=((U.extBut p.extBut D.TOi1.symm).extBut B.extBut D.i12).extBut v.extBut D.TOi1.symm;have R:g.IsTupleIter i2 t (n+1):=S.extBut v.extBut D.TOi2.symm;have zl:z<g.objs.size:=MB z5;show wpAny _ _ (Builtin.SmallTypes.ownedTupleHandOut (.ref z) (.ref g.objs.size) >>= _) _ _ _;refine q04 ?_;unfold Builtin.SmallTypes.ownedTupleHandOut
 have z6:IsZip (g.push {cls:=.type "tuple",data:=.seq #[x,y]}) z TI TO .ellipsis:=Ma _ z5;refine q04 (wpAny_setField_rec z6 (by simp) λg7 L s7=>?_);replace L:IsZip g7 z TI TO (rawInt g.objs.size):=L
 refine wpAny_setField_rec L (by simp) λI C s8=>?_;replace C:IsZip I z TI TO (rawInt g.objs.size):=C
 have up:∀c o,c≠z->g.get? c=some o->I.get? c=some o:=λc o m e=>s8.extBut _ _ m (s7.extBut _ _ m (Ma _ e));have t8:IsPair I g.objs.size x y:=s8.extBut _ _ (Nat.ne_of_gt zl) (s7.extBut _ _ (Nat.ne_of_gt zl) (Mg _ rfl));rw[sz]at C t8;refine q05 ⟨_,rfl,q05 ?_⟩;show Q (some (.ref g.objs.size)) _;rw[sz];exact q I C (up _ _ D.TOz G) (T.at λo e=>up _ o D.i1z e) (let ⟨o,e,r⟩:=R;⟨o,up _ o D.i2z e,r⟩) t8 λc o m J Z Y e=>up c o m (k5 c o m J Z Y e)
theorem Bl{z TI TO i1 l:Addr}{Q:Option Value->Shared->Prop}(hh:A.handled=none)(n1:i1≠z)(n2:l≠z)(n3:TO≠z)(z0:IsZip s.heap z TI TO .none)(p0:IsPair s.heap TI (.ref i1) (.ref i2))(o0:IsPair s.heap TO a b)
  (j1:s.heap.IsListIter i1 l k) (hl:s.heap.IsList l xs) (hx:xs[k]?=none) (q:∀h',(∀c o,c≠z->c≠TO->c≠i1->c≠i2->s.heap.get? c=some o->h'.get? c=some o)->Q none {s with heap:=h' }):wpAny d⁻¹ A (pyNext (.ref z)) Q E s:=by
 have ty:s.TypeIs (.ref z) "zip":=⟨_,z0,rfl⟩;unfold pyNext;refine q04 (wpAny_attempt (wpAny_callSpecial?_slot (name:=Str.ofString "__next__") ty F.slot_zip_next (wpAny_call_entry F.slot_zip_next ty F.entry_zip_next ?_ (F.args_zip_next_1 _))))
 show wpAny _ _ (field (.ref z) 2 >>= _) _ _ s;refine q04 (wpAny_field z0 rfl (x:=.bool false) rfl ?_)
 show wpAny _ _ (field (.ref z) 3 >>= _) _ _ s;refine q04 (wpAny_field z0 rfl (x:=.ref TI) rfl (q04 (wpAny_seqItems p0 rfl ?_)))
 show wpAny _ _ (Builtin.SmallTypes.ownedTupleIsFree (.ref z) >>= _) _ _ s;refine q04 ?_;unfold Builtin.SmallTypes.ownedTupleIsFree;refine q04 (wpAny_field z0 rfl (x:=.none) rfl (q05 ?_))
 simp only[if_true];refine q04 (wpAny_rule (q04 (wpAny_field z0 rfl (x:=.ref TO) rfl ?_)))
 refine q04 (wpAny_setField_rec z0 (by simp) λJ m n=>?_);replace m:IsZip J z TI TO .ellipsis:=m
 refine q04 ?_;simp only[List.zipIdx_cons,List.zipIdx_nil,List.forIn_cons,List.forIn_nil];refine q04 (q04 (wpAny_onRaise ?_))
 show wpAny _ _ (Builtin.SmallTypes.nextOf (.ref i1) >>= _) _ _ _;refine q04 (wpAny_nextOf_list_end hh (j1.extBut n.extBut n1) (hl.extBut n.extBut n2) hx λI e y D=>?_)
 obtain⟨B,g,j⟩:=D;have r:IsZip I z TI TO .ellipsis:=y _ _ n1.symm m;have L:e≠z:=λu=>by subst u;rw[r]at g;cases g;simp at j
 refine wpAny_setField_rec r (by simp) λG _ v=>?_;have p:G.get? e=some B:=v.extBut _ _ L g;refine q04 (wpAny_isInstance (T:="StopIteration") (b:=true) ⟨B,p,j⟩ isSubtype_stop (q05 (q _ λc o C _ M _ u=>v.extBut _ _ C (y _ _ M (n.extBut _ _ C u)))))
def CB(h:Heap)(l t:Addr):Heap:=((((h.push {cls:=.type "list_iterator",data:=.fields #[.ref l,.int 0 0]}).push {cls:=.type "tuple_iterator",data:=.fields #[.ref t,.int 0 0]}).push {cls:=.type "tuple",data:=.seq #[.ref h.objs.size,.ref (h.objs.size+1)]}).push {cls:=.type "tuple",data:=.seq #[.none,.none]}).push {cls:=.type "zip",data:=.fields #[.none,.bool false,.bool false,.ref (h.objs.size+2),.ref (h.objs.size+3)]}
theorem wF(l t:Addr)(xs ys:Array Value):Meets (Builtin.«zip.__new__» ⟨[.type "zip",.ref l,.ref t],[]⟩) (λ_ R s=>s.heap.IsList l xs/\s.heap.IsTuple t ys/\R (.ok (.ret (.ref (s.heap.objs.size+4)))) {s with heap:=CB s.heap l t}):=
 .of_wp λprog w A R s h=>by
  obtain⟨hp,g,d,tk,os⟩:=s;obtain⟨h1,h2,h⟩:=h
  have hsub:isSubtype (.type "zip") (.type "zip")=pure true:=by rw[isSubtype_type];kernel_rfl
  have b:Heap.IsList (Shared.heap ⟨hp,g,d,tk,os⟩) l xs:=h1;have a:Heap.IsTuple (Shared.heap ⟨hp.push {cls:=.type "list_iterator",data:=.fields #[.ref l,.int 0 0]},g,d,tk,os⟩) t ys:=Heap.IsTuple.push h2 _
  wp_walk using wpAny_pyIter_list b,wpAny_pyIter_tuple a
  refine⟨_,rfl,?_⟩;simp only[Heap.size_push]at *;exact h
theorem zx{t:Addr}{Q:M5}(hl:s.heap.IsList l xs)(ht:s.heap.IsTuple t ys)
  (q:∀h',IsZip h' (s.heap.objs.size+4) (s.heap.objs.size+2) (s.heap.objs.size+3) .none->IsPair h' (s.heap.objs.size+2) r⁻¹ (.ref q⁻¹)->IsPair h' (s.heap.objs.size+3) .none .none->h'.IsListIter s.heap.objs.size l 0->h'.IsTupleIter q⁻¹ t 0->(∀c o,s.heap.get? c=some o->h'.get? c=some o)->Q (.ref (s.heap.objs.size+4)) {s with heap:=h' }) :
  wpAny d⁻¹ A (call (.type "zip") [.ref l,.ref t]) Q E s:=by
 refine callType_new F.called_zip nofun (F.typeCall_zip_2 _ _) (F.newCall_zip_2 _ _) (λobj=>F.args_object_init_3 obj _ _) F.entry_zip_new (wF l t xs ys) ⟨hl,ht,?_⟩;have a:∀{h:Heap} {n:Nat} {o:Obj},h.objs.size=n->o.isFreed=false->(h.push o).get? n=some o:=λe f=>by rw[<- e];exact Mg _ f
 have up:=fun{h:Heap} {c:Addr} {u:Obj} (o:Obj) (e:h.get? c=some u)=>Ma o e;have b:(CB s.heap l t).get? (s.heap.objs.size+4)=some _:=a (by simp only[Heap.size_push]) rfl;have g:(CB s.heap l t).get? (s.heap.objs.size+3)=some _:=up _ (a (by simp only[Heap.size_push]) rfl);have j:(CB s.heap l t).get? (s.heap.objs.size+2)=some _:=up _ (up _ (a (by simp only[Heap.size_push]) rfl));have k:(CB s.heap l t).get? q⁻¹=some _:=up _ (up _ (up _ (a (by simp only[Heap.size_push]) rfl)));have m:(CB s.heap l t).get? s.heap.objs.size=some _:=up _ (up _ (up _ (up _ (a rfl rfl))));exact⟨⟨_,b,rfl⟩,q _ b j g ⟨_,m,rfl,rfl⟩ ⟨_,k,rfl,rfl⟩ λc o u=>up _ (up _ (up _ (up _ (up _ u))))⟩
end
def G8(K:M6)(a b:Addr):It:=
 ⟨λi H=>∃xs ys x y,aO K H a xs/\aS K H b ys/\xs[i]?=some x/\ys[i]?=some y,λi H v H'=>∃T x y,v=.ref T/\H T=none/\H'=aA H T (.tup [x,y])/\(∀xs,aO K H a xs->xs[i]?=some x)/\∀ys,aS K H b ys->ys[i]?=some y,
  λi H=>∃xs,aO K H a xs/\xs.length<=i⟩
theorem A'{K:M6}{elts:Nk}{tp:Pos}{z TI TO:Addr}(D:ZipApart z TI TO i1 i2 l1 l2) :
  rR P w K (.Tuple elts x1 tp) (G8 K l1 l2) [z,TI,TO,i1,i2] z (λi h=>IsZip h z TI TO .none/\IsPair h TI (.ref i1) (.ref i2)/\(∃a b,IsPair h TO a b)/\h.IsListIter i1 l1 i/\h.IsTupleIter i2 l2 i) where
 mem:=by simp
 obj:=λi h n b G=>by
  obtain⟨p,g,⟨a,c,j⟩,⟨o1,e1,c1,d1⟩,⟨T,S,c2,d2⟩⟩:=n;simp only[Mq,List.not_mem_nil,or_false]at G;rcases G with rfl | rfl | rfl | rfl | rfl
  ·exact⟨_,p,λv q=>by cases q⟩
  ·exact⟨_,g,λv q=>by cases q⟩
  ·exact⟨_,j,λv q=>by cases q⟩
  ·exact⟨_,e1,λv q=>by rw[d1]at q;cases q⟩
  ·exact⟨_,S,λv q=>by rw[d2]at q;cases q⟩
 keep:=λi h h' n m=>by
  obtain⟨p,g,⟨a,b,j⟩,h1,⟨T,S,r2⟩⟩:=n;exact⟨m z (by simp) _ p,m TI (by simp) _ g,⟨a,b,m TO (by simp) _ j⟩,h1.at λo e=>m i1 (by simp) o e,⟨T,m i2 (by simp) T S,r2⟩⟩
 item:=by
  intro X hP hw hK l i J s σ H E I hf n hg;subst hP hw hK;obtain⟨xs,ys,x,y,r,O,hx,hy⟩:=hg;obtain⟨M,u,p1,a7⟩:=I.list r;obtain⟨L,Z,p2,hz2⟩:=I.tuple O;obtain⟨Y,b1,a6⟩:=u.get hx;obtain⟨U,a9,a0⟩:=Z.get hy;obtain⟨p,g,⟨a,b,j⟩,h1,h2⟩:=n;refine yQ D p g j h1 h2 p1.isList (show s.heap.IsTuple l2 L.toArray from p2) (x:=Y) (y:=U) (by simpa using b1) (by simpa using a9) λh' a1 a2 a3 a4 a5 m=>?_;refine⟨_,rfl,wpAny_letOwnedTupleGo_zip a1 λR a8 k=>?_⟩;have C:H s.heap.objs.size=none:=I.hok.fresh (My _);have lt:∀{c o},s.heap.get? c=some o->s.heap.objs.size≠c:=λe=>Nat.ne_of_gt (MB e);have kk:∀c o,c∉[z,TI,TO,i1,i2]->s.heap.get? c=some o->R.get? c=some o:=λc o l e=>
   k.extBut _ _ (λq=>l (by simp[q])) (m c o (λq=>l (by simp[q])) (λq=>l (by simp[q])) (λq=>l (by simp[q])) (λq=>l (by simp[q])) e)
  have hT:R.get? s.heap.objs.size=some {cls:=.type "tuple",data:=.seq #[Y,U]}:=k.extBut _ _ (lt p) a5;refine⟨.ref s.heap.objs.size,aA H s.heap.objs.size (.tup [x,y]),I.movedT (tk:=s.toks) hf kk (My _) ⟨show 2<=sizeLine from by decide +kernel,[Y,U],.cons a6 (.cons a0 .nil),_,hT,rfl,_,rfl⟩,rfl,
   ⟨_,x,y,rfl,C,rfl,λzs B=>by rw[I.list_inj B r];exact hx,λzs B=>by rw[I.tuple_inj B O];exact hy⟩,
   ⟨a8,k.extBut _ _ D.TIz (m _ _ D.TIz D.TITO D.TIi1 D.TIi2 g),⟨_,_,k.extBut _ _ D.TOz a2⟩,a3.extBut k.extBut D.i1z,a4.extBut k.extBut D.i2z⟩,λb G=>?_⟩
  have b2:b≠s.heap.objs.size:=by
   obtain⟨o1,e1,_⟩:=h1;obtain⟨T,S,_⟩:=h2;simp only[Mq,List.not_mem_nil,or_false]at G;rcases G with rfl | rfl | rfl | rfl | rfl
   ·exact(lt p).symm
   ·exact(lt g).symm
   ·exact(lt j).symm
   ·exact(lt e1).symm
   ·exact(lt S).symm
  rw[ao b2];exact(hf b G).1
 done:=by
  intro X hP hw hK l i J s σ H E I hf n hg;subst hP hw hK;obtain⟨xs,r,hx⟩:=hg;obtain⟨M,u,p1,a7⟩:=I.list r;obtain⟨p,g,⟨a,b,j⟩,h1,h2⟩:=n;have l1':=u.length;exact Bl (I.ok.hd l) D.i1z D.l1z D.TOz p g j h1 p1.isList (by simp;omega) λh' m=>⟨rfl,I.moved (tk:=s.toks) hf λc o l e=>m c o (λq=>l (by simp[q])) (λq=>l (by simp[q])) (λq=>l (by simp[q])) (λq=>l (by simp[q])) e⟩
 self:=λ_ _ _ _ _ n h=>wpAny_pyIter_zip n.1 h
section
variable {X:Cx}{elts:Nk}{x1:Nat}{tp:Pos}
def ET(K:M6)(ta:TA):TI:=λσ H R=>ta σ H λvs H1=>∃a b xs ys,vs=[.ref a,.ref b]/\aO K H1 a xs/\aS K H1 b ys/\R (G8 K a b) H1
theorem FV{a b:Expr}{ta:TA}{p pos:Pos}(hg:Gl X "zip")(hm:X.mg "zip"=none)(ha:PA X [a,b] ta)(hs:autoParam (starEach [a,b] X.env=[(false,eval a X.env),(false,eval b X.env)]) zz0._auto_1)(hs2:autoParam (starEach [b] X.env=[(false,eval b X.env)]) zz0._auto_1):PI X (.Tuple elts x1 tp) (.Call (.Name "zip" p) [a,b] [] pos) (ET X.K ta):=by
 intro g s σ H R I h;refine Call_ (fG I hg hm boot_zip (PyProof.Rows.callWith_type1 (bV (ha pos g s σ H _ I h) λus c ⟨vs,B,l,O,S⟩=>?_) (by rw[hs,hs2]) (by rw[hs2];rfl)));obtain⟨l1,l2,xs,ys,rfl,r,o,q⟩:=S;obtain⟨u,v,rfl,M,L⟩:=O.two;cases M;cases L;obtain⟨its1,rv1,x,_⟩:=l.list r;obtain⟨j,rv2,T,_⟩:=l.tuple o;have pt:c.heap.IsTuple l2 j.toArray:=T;refine zx x.isList pt λY w J G D C U=>?_;have n:l1<c.heap.objs.size:=by obtain⟨_,e,_⟩:=x.isList;exact MB e
 have m:l2<c.heap.objs.size:=by obtain⟨_,e,_⟩:=pt;exact MB e
 have Z:Inv X g σ B {c with heap:=Y }:=l.kept (t':=c.toks) U;refine wpAny_pyIter_zip w ?_;refine⟨c.heap.objs.size+4,[c.heap.objs.size+4,c.heap.objs.size+2,c.heap.objs.size+3,c.heap.objs.size,c.heap.objs.size+1],_,_,B,rfl,Z,A' (l1:=l1) (l2:=l2) ?_,⟨w,J,⟨_,_,G⟩,D,C⟩,λb y=>?_,q⟩
 ·exact tN _ _ _ n m
 ·have k:c.heap.objs.size<=b:=by
   simp only[Mq,List.not_mem_nil,or_false]at y;rcases y with e | e | e | e | e<;>(rw[e];first | exact My _ | exact Nat.le_add_right _ _)
  exact l.fpOk k (l.hok.fresh k)
end
section
variable {K:M6}{g:TG}{tb:TS}{D:iO}{σ:St}{H:Hp}
theorem BH{xs ys:List V}(hlen:xs.length<=ys.length)(Pv:Nat->St->Hp->Prop)(h0:Pv 0 σ H)(hl:∀i σ H,i<=xs.length->Pv i σ H->aO K H a xs/\aS K H b ys)
  (hs:∀i x y σ H T,xs[i]?=some x->ys[i]?=some y->Pv i σ H->H T=none->g (.ref T) σ (aA H T (.tup [x,y])) λσ2 H2=>tb {D with nx:=Pv (i+1),ct:=Pv (i+1),bk:=D.nx} σ2 H2) (hd:∀σ H,Pv xs.length σ H->D.nx σ H):u5 (G8 K a b) g tb D σ H:=by
 refine⟨λi m σ H=>Pv i σ H/\i<=xs.length/\m=xs.length+1-i,⟨_,h0,Mz _,rfl⟩,?_⟩;rintro i m σ' r ⟨w,p,rfl⟩;obtain⟨e,j⟩:=hl _ _ _ p w;rcases Nat.lt_or_ge i xs.length with c | hge
 ·refine .inr ⟨⟨xs,ys,xs[i],ys[i]'⋯,e,j,L_ c,L_ ⋯⟩,Pv (i+1),λσ2 H2 w2=>⟨xs.length+1-(i+1),⋯,w2,c,rfl⟩,λx H2 y=>?_⟩
  obtain⟨T,l,k,rfl,q,rfl,o,n⟩:=y;exact hs i l k σ' r T (o xs e) (n ys j) w q
 ·have:i=xs.length:=by omega
  subst this;exact .inl ⟨⟨xs,e,My _⟩,hd _ _ w⟩
end
section
variable {X:Cx}{es:Nk}{te:TE}
theorem Fd{tgs:Nk}{tp:Pos}{g:TG}{pos lp:Pos}(he:WE X (.List es lp) te)(hb:PE X b tb)(hs:Aa b)(hg:PG X (.Tuple tgs x1 tp) g):WS X (.Assign [.Tuple tgs x1 tp] (.Subscript (.List es lp) b p) pos) (zE (HM (BA X.K) te tb) g):=⟨qV (az wg he.out hb hs) hg⟩
end
inductive TrD:Dt->Prop
 |mk (i:Int) (ds:List Dt):(∀d∈ds,TrD d)->TrD (.tup (.int i::ds))
theorem FG{X:Cx}{K:M6}(hK:X.K=K)(hu:X.A.units+64<cLine):bg X (compareOp .Eq) (F5 K):=hK▸u6 hu
end L2
namespace L2
open PySem PySem.Spec PyProof.Rows QL PySem.Builtin PySem.Builtin.Str
theorem IZ{H H':Hp}(h:H l=none)(e:aA H l o=H'):aD H H'/\H' l=some o:=by subst e;exact⟨ae h,ad⟩
end L2
namespace TL
open PySem PySem.Spec PyProof.Rows L2
section
variable {prog:Nf}{w:Ni}{A:Nh}{E:M5}{s:M9}
def GC(prog:Nf)(w:Ni)(A:Nh)(s:M9)(fin:Bool)(Q:Bool->Prop):List (Value×Value)->Prop
 | []=>Q fin
 | (x,y)::r=>(∀(E:M5) (K:Bool->Shared->Prop),K true s->wpAny d⁻¹ A (eqBool x y) K E s)/\GC prog w A s fin Q r \/
   (∀(E:M5) (K:Bool->Shared->Prop),K false s->wpAny d⁻¹ A (eqBool x y) K E s)/\∃b,(∀(E:M5) (K:M5),K (.bool b) s->wpAny d⁻¹ A (richCompare .Lt x y) K E s)/\Q b
theorem Fs{a b:Addr}{o o2:Obj}(ho:s.heap.get? a=some o)(hc:o.cls=.type "tuple")(hd:o.data=.seq xs n)(ho2:s.heap.get? b=some o2)(hc2:o2.cls=.type "tuple")(hd2:o2.data=.seq ys n2)
  {R:PySem.Fin->Shared->Prop} (h:GC prog w A s (decide (xs.size<ys.size)) (λv=>R (.done (.ret (.bool v))) s) (xs.toList.zip ys.toList)) :
  wpAny d⁻¹ A (Builtin.«tuple.__lt__» ⟨[.ref a,.ref b],[]⟩) R E s:=by
 have j:s.TypeIs (.ref b) "tuple":=⟨_,ho2,hc2⟩;unfold Builtin.«tuple.__lt__»;refine q04 (q05 ?_);refine q04 (wpAny_isInstance (T:="tuple") (b:=true) j (by rw[isSubtype_type];kernel_rfl) ?_);rw[q06 nofun];refine q04 (wpAny_tupleItemsOf ho hd ?_);refine q04 (wpAny_tupleItemsOf ho2 hd2 ?_);refine q04 ?_;refine wpAny_forIn_list _ (λb5 r g=>g=s/\r=(none,())/\GC prog w A s (decide (xs.size<ys.size)) (λv=>R (.done (.ret (.bool v))) s) b5) _ ?_ ?_ _ _ ⟨rfl,rfl,h⟩
 ·rintro⟨x,y⟩ b5 r g ⟨rfl,rfl,c⟩
  rcases c with⟨e,c⟩ | ⟨e,bb,lt,q⟩
  ·refine q04 (e _ _ ?_)
   rw[q06 nofun];exact q05 ⟨rfl,rfl,c⟩
  ·refine q04 (e _ _ ?_)
   rw[q07 nofun];refine q04 (wpAny_rule ?_);refine q04 (lt _ _ ?_);refine q04 (q05 ?_);exact q05 (q05 q)
 ·rintro r g ⟨rfl,rfl,c⟩
  exact q05 c
theorem vn{Q:M5}(ha:s.heap.IsTuple a xs)(hb:s.heap.IsTuple b ys)(hu:A.units<cLine)
  (h:∃v,GC prog w A.in1 s (decide (xs.size<ys.size)) (λu=>u=v) (xs.toList.zip ys.toList)/\Q (.bool v) s):wpAny d⁻¹ A (richCompare .Lt (.ref a) (.ref b)) Q E s:=by
 obtain⟨o,j,m,n,y⟩:=ha;obtain⟨o2,c,g,n2,k⟩:=hb;obtain⟨v,r,q⟩:=h;refine wpAny_richCompare_same_room (T:="tuple") ⟨_,j,m⟩ ⟨_,c,g⟩ PySem.F.slot_tuple_lt (wpAny_call_entry PySem.F.slot_tuple_lt ⟨_,j,m⟩ PySem.F.entry_tuple_lt ?_ (PySem.F.args_tuple_lt_2 _ _)) hu;have mono:∀l,GC prog w A.in1 s (decide (xs.size<ys.size)) (λu=>u=v) l->GC prog w A.in1 s (decide (xs.size<ys.size)) (λu=>∃z,PySem.Fin.done (.ret (.bool u))=PySem.Fin.done (.ret z)/\(z≠.notImplemented/\Q z s)) l:=by
  intro l
  induction l with
  |nil=>intro e;exact⟨_,rfl,(λx=>nomatch x),by have e:decide (xs.size<ys.size)=v:=e;rw[e];exact q⟩
  |cons p l ih=>
   rintro(⟨e,h⟩ | ⟨e,b,h,rfl⟩)
   ·exact .inl ⟨e,ih h⟩
   ·exact .inr ⟨e,b,h,_,rfl,(λx=>nomatch x),q⟩
 exact Fs j m y c g k (mono _ r)
def HR(prog:Nf)(w:Ni)(A:Nh)(s:M9):List (Value×Value)->Prop
 | []=>False
 | (x,y)::r=>(∀(E:M5) (K:Bool->Shared->Prop),K true s->wpAny d⁻¹ A (eqBool x y) K E s)/\HR prog w A s r \/
   (∀(E:M5) (K:Bool->Shared->Prop),K false s->wpAny d⁻¹ A (eqBool x y) K E s)
theorem Gb{a b:Addr}{o o2:Obj}(ho:s.heap.get? a=some o)(hc:o.cls=.type "tuple")(hd:o.data=.seq xs n)(ho2:s.heap.get? b=some o2)(hc2:o2.cls=.type "tuple")(hd2:o2.data=.seq ys n2)
  {R:PySem.Fin->Shared->Prop} (h:HR prog w A s (xs.toList.zip ys.toList)) (q:R (.done (.ret (.bool false))) s) :
  wpAny d⁻¹ A (Builtin.«tuple.__eq__» ⟨[.ref a,.ref b],[]⟩) R E s:=by
 have j:s.TypeIs (.ref b) "tuple":=⟨_,ho2,hc2⟩;unfold Builtin.«tuple.__eq__»;refine q04 (q05 ?_);refine q04 (wpAny_isInstance (T:="tuple") (b:=true) j (by rw[isSubtype_type];kernel_rfl) ?_);rw[q06 nofun];refine q04 (wpAny_tupleItemsOf ho hd ?_);refine q04 (wpAny_tupleItemsOf ho2 hd2 ?_);refine q04 ?_;refine wpAny_forIn_list _ (λb5 r g=>g=s/\r=(none,())/\HR prog w A s b5) _ ?_ ?_ _ _ ⟨rfl,rfl,h⟩
 ·rintro⟨x,y⟩ b5 r g ⟨rfl,rfl,c⟩
  rcases c with⟨e,c⟩ | e
  ·refine q04 (e _ _ ?_)
   rw[q06 nofun];exact q05 ⟨rfl,rfl,c⟩
  ·refine q04 (e _ _ ?_)
   rw[q07 nofun];refine q04 (q05 ?_);exact q05 (q05 q)
 ·rintro r g ⟨rfl,rfl,c⟩
  exact c.elim
theorem vb{Q:M5}(ha:s.heap.IsTuple a xs)(hb:s.heap.IsTuple b ys)(hu:A.units<cLine)
  (h:HR prog w A.in1 s (xs.toList.zip ys.toList)) (q:Q (.bool false) s):wpAny d⁻¹ A (richCompare .Eq (.ref a) (.ref b)) Q E s:=by
 obtain⟨o,g,k,n,l⟩:=ha;obtain⟨o2,c,e,n2,j⟩:=hb;exact wpAny_richCompare_same_room (T:="tuple") ⟨_,g,k⟩ ⟨_,c,e⟩ PySem.F.slot_tuple_eq (wpAny_call_entry PySem.F.slot_tuple_eq ⟨_,g,k⟩ PySem.F.entry_tuple_eq (Gb g k l c e j h ⟨_,rfl,(λx=>nomatch x),q⟩) (PySem.F.args_tuple_eq_2 _ _)) hu
theorem pO:∀{xs ys:Na} {r:List (Value×Value)},xs.length=ys.length->(∀p∈xs.zip ys,∀(E:M5) (K:Bool->Shared->Prop),K true s->wpAny d⁻¹ A (eqBool p.1 p.2) K E s)->HR prog w A s r->HR prog w A s (xs.zip ys++r)
 | [],[],_,_,_,h=>h
 | [],_::_,_,e,_,_=>nomatch e
 |_::_,[],_,e,_,_=>nomatch e
 |x::xs,y::ys,r,e,h,hr=>.inl ⟨h (x,y) q0B,pO (by simpa using e) (λp hp=>h p (Mr _ hp)) hr⟩
theorem pM{f:Bool}:∀{xs ys:Na} {r:List (Value×Value)},xs.length=ys.length->(∀p∈xs.zip ys,∀(E:M5) (K:Bool->Shared->Prop),K true s->wpAny d⁻¹ A (eqBool p.1 p.2) K E s)->GC prog w A s f Q r->GC prog w A s f Q (xs.zip ys++r)
 | [],[],_,_,_,h=>h
 | [],_::_,_,e,_,_=>nomatch e
 |_::_,[],_,e,_,_=>nomatch e
 |x::xs,y::ys,r,e,h,hr=>.inl ⟨h (x,y) q0B,pM (by simpa using e) (λp hp=>h p (Mr _ hp)) hr⟩
inductive LtK:Dt->Dt->Prop
 |int {i j:Int}:i<j->LtK (.int i) (.int j)
 |at(pre ds es:List Dt) {d e:Dt}:LtK d e->LtK (.tup (pre++d::ds)) (.tup (pre++e::es))
theorem LtK.ne{d:Dt}(h:LtK d e):d≠e:=by
 induction h with
 |int h=>intro e;cases e;omega
 | «at» pre ds es _ ih=>
  intro h;have h:=Dt.tup.inj h;have h:=List.append_cancel_left h;exact ih (List.cons.inj h).1
end
section
variable {X:Cx}{pins:M7}{σ:L2.St}{H:Hp}{s:M9}
mutual
theorem C5:∀(d:Dt) {e:Dt} {v:V},aU H d v->aU H e v->d=e
 | .int i,e,v,h1,h2=>by
  unfold aU at h1;subst h1
  cases e with
  |int j=>unfold aU at h2;cases h2;rfl
  |tup es=>unfold aU at h2;obtain⟨a,xs,e,_⟩:=h2;cases e
  |_=>unfold aU at h2;exact h2.elim
 | .tup ds,e,v,h1,h2=>by
  unfold aU at h1;obtain⟨a,xs,rfl,ha,hx⟩:=h1;cases e with
  |int j=>unfold aU at h2;cases h2
  |tup es=>
   unfold aU at h2;obtain⟨a',ys,e,hb,hy⟩:=h2;cases e;rw[ha]at hb;cases hb;rw[kH ds hx hy]
  |_=>unfold aU at h2;exact h2.elim
 | .non,_,_,h,_=>by unfold aU at h;exact h.elim
 | .bl b,_,_,h,_=>by unfold aU at h;exact h.elim
 | .str x,_,_,h,_=>by unfold aU at h;exact h.elim
 | .lst ds,_,_,h,_=>by unfold aU at h;exact h.elim
theorem kH:∀(ds:List Dt) {es:List Dt} {xs:List V},aL H ds xs->aL H es xs->ds=es
 | [],es,xs,h1,h2=>by
  unfold aL at h1;subst h1
  cases es with
  |nil=>rfl
  |cons e es=>obtain⟨x,r,e,_⟩:=h2.uncons;cases e
 |d::ds,es,xs,h1,h2=>by
  obtain⟨x,r,rfl,a1,a2⟩:=h1.uncons;cases es with
  |nil=>unfold aL at h2;cases h2
  |cons e es=>
   obtain⟨y,r',e',b1,b2⟩:=h2.uncons;cases e';rw[C5 d a1 b1,kH ds a2 b2]
end
theorem dv{d:Dt}{ds:List Dt}:∀{pre:List Dt} {xs:List V},aL H (pre++d::ds) xs->∃xp x0 xr,xs=xp++x0::xr/\aL H pre xp/\aU H d x0
 | [],xs,h=>by
  obtain⟨x,r,rfl,h1,_⟩:=h.uncons;exact⟨[],x,r,rfl,aL.nil,h1⟩
 |d'::pre,xs,h=>by
  obtain⟨x,r,rfl,h1,h2⟩:=aL.uncons (ds:=pre++d::ds) h;obtain⟨xp,x0,xr,rfl,h3,h4⟩:=dv h2;exact⟨x::xp,x0,xr,rfl,aL.cons h1 h3,h4⟩
theorem d_:∀{xp:List V} {x0:V} {xr:List V} {its:Na},bd (xp++x0::xr) its->∃ip i0 ir,its=ip++i0::ir/\bd xp ip/\bi x0 i0
 | [],_,_,_,.cons q r=>⟨[],_,_,rfl,.nil,q⟩
 |x::xp,x0,xr,_,.cons q r=>by
  obtain⟨ip,i0,ir,rfl,h1,h2⟩:=d_ r;exact⟨_::ip,i0,ir,rfl,.cons q h1,h2⟩
theorem qJ(I:Inv X pins σ H s){n:Nat}{A:Nh}(hu:A.units+n<cLine):∀{pre:List Dt} {xp yp:List V} {ip jp:Na},Dt.deps pre<=n->aL H pre xp->aL H pre yp->bd xp ip->bd yp jp->ip.length=jp.length/\∀p∈ip.zip jp,SeqAt.EqAt A s p.1 p.2 true
 | [],xp,yp,ip,jp,_,h1,h2,r1,r2=>by
  unfold aL at h1 h2;subst h1 h2;cases r1;cases r2
  exact⟨rfl,λp hp=>nomatch hp⟩
 |d::pre,xp,yp,ip,jp,hd,h1,h2,r1,r2=>by
  obtain⟨x,xr,rfl,a1,a2⟩:=h1.uncons;obtain⟨y,yr,rfl,b1,b2⟩:=h2.uncons;cases r1 with
  |cons q1 r1=>
   cases r2 with
   |cons q2 r2=>
    have hdd:d.dep<=n/\Dt.deps pre<=n:=by
     have:Dt.deps (d::pre)=max d.dep (Dt.deps pre):=by rw[Dt.deps]
     omega
    obtain⟨l,h⟩:=qJ I hu hdd.2 a2 b2 r1 r2;refine⟨by simp[l],λp hp=>?_⟩;rcases Mq.mp hp with rfl | hp
    ·exact vz I n d A hdd.1 hu (aU.rd (K:=X.K) _ a1) (aU.rd (K:=X.K) _ b1) q1 q2
    ·exact h p hp
set_option tactic.hygienic true in
theorem DO(I:Inv X pins σ H s){d e:Dt}(h:LtK d e):∀(n:Nat) (A:Nh) {x y:V} {v u:Value},d.dep<=n->A.units+2*n+2<cLine->aU H d x->aU H e y->bi x v->bi y u ->
  SeqAt.EqAt A s v u false/\∀(prog:Nf) (w:Ni) (E K:M5),K (.bool true) s->wpAny d⁻¹ A (richCompare .Lt v u) K E s:=by
 induction h with
 | @int i j h=>
  intro n A x y v u _ _ h1 h2 r1 r2;unfold aU at h1 h2;subst h1 h2;obtain⟨t,rfl⟩:=r1;obtain⟨t',rfl⟩:=r2;refine⟨λprog w E Q hq=>wpAny_eqBool_int (by rw[show(i==j)=false by simp;omega];exact hq),λprog w E K hK=>?_⟩;exact wpAny_richCompare_same (typeIs_int s i t) (typeIs_int s j t') slot_int_lt (call_int_lt ⟨(λq=>nomatch q),by rw[q09 h];exact hK⟩)
 | «at» pre ds es hde ih=>
  rename_i d e;intro n A x y v u hn hu h1 h2 r1 r2;have hne:Dt.tup (pre++d::ds)≠Dt.tup (pre++e::es):=(LtK.at pre ds es hde).ne;unfold aU at h1 h2;obtain⟨a,xs,rfl,ha,hxs⟩:=h1;obtain⟨b,ys,rfl,hb,hys⟩:=h2;cases r1;cases r2
  obtain⟨its,ra,pa,_⟩:=I.tuple (aS.of ha);obtain⟨jts,rb,pb,_⟩:=I.tuple (aS.of hb);obtain⟨xp,x0,xr,rfl,c1,c2⟩:=dv hxs;obtain⟨yp,y0,yr,rfl,c3,c4⟩:=dv hys;obtain⟨ip,i0,ir,rfl,e1,e2⟩:=d_ ra;obtain⟨jp,j0,jr,rfl,e3,e4⟩:=d_ rb;have hdeps:∀l:List Dt,Dt.dep (.tup l)=Dt.deps l+1:=λl=>by rw[Dt.dep]
  have hap:∀l:List Dt,Dt.deps l<=Dt.deps (l++d::ds)/\d.dep<=Dt.deps (l++d::ds):=by
   intro l
   induction l with
   |nil=>
    have:Dt.deps (d::ds)=max d.dep (Dt.deps ds):=by rw[Dt.deps]
    have h0:Dt.deps []=0:=by rw[Dt.deps]
    constructor
    ·rw[h0];exact Mz _
    ·show d.dep<=Dt.deps (d::ds);omega
   |cons y l ih=>
    have h1:Dt.deps (y::l)=max y.dep (Dt.deps l):=by rw[Dt.deps]
    have h2:Dt.deps (y::(l++d::ds))=max y.dep (Dt.deps (l++d::ds)):=by rw[Dt.deps]
    constructor
    ·show Dt.deps (y::l)<=Dt.deps (y::(l++d::ds));omega
    ·show d.dep<=Dt.deps (y::(l++d::ds));omega
  obtain⟨p1,p2⟩:=hap pre;rw[hdeps]at hn;have hin:A.in1.units=A.units+1:=rfl;obtain⟨hl,he⟩:=qJ I (n:=n) (A:=A.in1) ⋯ ⋯ c1 c3 e1 e3;obtain⟨f1,f2⟩:=ih (n-1) A.in1 ⋯ ⋯ c2 c4 e2 e4;have ez:(ip++i0::ir).toArray.toList.zip (jp++j0::jr).toArray.toList=ip.zip jp++(i0,j0)::ir.zip jr:=by
   rw[List.toList_toArray,List.toList_toArray,List.zip_append hl,List.zip_cons_cons]
  have hab:a≠b:=λe=>by
   subst e;rw[ha]at hb;have hx:=HO.tup.inj (q0Q hb);rw[<- hx]at hys;exact hne (q0P Dt.tup (kH _ hxs hys))
  refine⟨SeqAt.EqAt.of_refs hab λprog w E Q hq=>vb pa pb ⋯ (by rw[ez];exact pO hl (λp hp E K hK=>he p hp prog w E K hK) (.inr λE K hK=>f1 prog w E K hK)) hq,λprog w E K hK=>vn pa pb ⋯ ⟨true,by rw[ez];exact pM hl (λp hp E K hK=>he p hp prog w E K hK) (.inr ⟨λE K hK=>f1 prog w E K hK,true,λE K hK=>f2 prog w E K hK,rfl⟩),hK⟩⟩
end
end TL
namespace TL
open PySem PySem.Spec PyProof.Rows L2
section
variable {X:Cx}{pins:M7}{σ:L2.St}{H:Hp}{s:M9}
set_option tactic.hygienic true in
theorem EQ(I:Inv X pins σ H s){d e:Dt}(h:LtK d e):∀(n:Nat) (A:Nh) {x y:V} {v u:Value},d.dep<=n->A.units+2*n+2<cLine->aU H d x->aU H e y->bi x v->bi y u ->
  SeqAt.EqAt A s u v false/\∀(prog:Nf) (w:Ni) (E K:M5),K (.bool false) s->wpAny d⁻¹ A (richCompare .Lt u v) K E s:=by
 induction h with
 | @int i j h=>
  intro n A x y v u _ _ h1 h2 r1 r2;unfold aU at h1 h2;subst h1 h2;obtain⟨t,rfl⟩:=r1;obtain⟨t',rfl⟩:=r2;refine⟨λprog w E Q hq=>wpAny_eqBool_int (by rw[show(j==i)=false by simp;omega];exact hq),λprog w E K hK=>?_⟩;exact wpAny_richCompare_same (typeIs_int s j t') (typeIs_int s i t) slot_int_lt (call_int_lt ⟨(λq=>nomatch q),by rw[q08 ⋯];exact hK⟩)
 | «at» pre ds es hde ih=>
  rename_i d e;intro n A x y v u hn hu h1 h2 r1 r2;have hne:Dt.tup (pre++d::ds)≠Dt.tup (pre++e::es):=(LtK.at pre ds es hde).ne;unfold aU at h1 h2;obtain⟨a,xs,rfl,ha,hxs⟩:=h1;obtain⟨b,ys,rfl,hb,hys⟩:=h2;cases r1;cases r2
  obtain⟨its,ra,pa,_⟩:=I.tuple (aS.of ha);obtain⟨jts,rb,pb,_⟩:=I.tuple (aS.of hb);obtain⟨xp,x0,xr,rfl,c1,c2⟩:=dv hxs;obtain⟨yp,y0,yr,rfl,c3,c4⟩:=dv hys;obtain⟨ip,i0,ir,rfl,e1,e2⟩:=d_ ra;obtain⟨jp,j0,jr,rfl,e3,e4⟩:=d_ rb;have hdeps:∀l:List Dt,Dt.dep (.tup l)=Dt.deps l+1:=λl=>by rw[Dt.dep]
  have hap:∀l:List Dt,Dt.deps l<=Dt.deps (l++d::ds)/\d.dep<=Dt.deps (l++d::ds):=by
   intro l
   induction l with
   |nil=>
    have:Dt.deps (d::ds)=max d.dep (Dt.deps ds):=by rw[Dt.deps]
    have h0:Dt.deps []=0:=by rw[Dt.deps]
    constructor
    ·rw[h0];exact Mz _
    ·show d.dep<=Dt.deps (d::ds);omega
   |cons y l ih=>
    have h1:Dt.deps (y::l)=max y.dep (Dt.deps l):=by rw[Dt.deps]
    have h2:Dt.deps (y::(l++d::ds))=max y.dep (Dt.deps (l++d::ds)):=by rw[Dt.deps]
    constructor
    ·show Dt.deps (y::l)<=Dt.deps (y::(l++d::ds));omega
    ·show d.dep<=Dt.deps (y::(l++d::ds));omega
  obtain⟨p1,p2⟩:=hap pre;rw[hdeps]at hn;have hin:A.in1.units=A.units+1:=rfl;obtain⟨hl,he⟩:=qJ I (n:=n) (A:=A.in1) ⋯ ⋯ c3 c1 e3 e1;obtain⟨f1,f2⟩:=ih (n-1) A.in1 ⋯ ⋯ c2 c4 e2 e4;have ez:(jp++j0::jr).toArray.toList.zip (ip++i0::ir).toArray.toList=jp.zip ip++(j0,i0)::jr.zip ir:=by
   rw[List.toList_toArray,List.toList_toArray,List.zip_append hl,List.zip_cons_cons]
  have hab:a≠b:=λe=>by
   subst e;rw[ha]at hb;have hx:=HO.tup.inj (q0Q hb);rw[<- hx]at hys;exact hne (q0P Dt.tup (kH _ hxs hys))
  refine⟨SeqAt.EqAt.of_refs (Ne.symm hab) λprog w E Q hq=>vb pb pa ⋯ (by rw[ez];exact pO hl (λp hp E K hK=>he p hp prog w E K hK) (.inr λE K hK=>f1 prog w E K hK)) hq,λprog w E K hK=>vn pb pa ⋯ ⟨false,by rw[ez];exact pM hl (λp hp E K hK=>he p hp prog w E K hK) (.inr ⟨λE K hK=>f1 prog w E K hK,false,λE K hK=>f2 prog w E K hK,rfl⟩),hK⟩⟩
theorem Dc(I:Inv X pins σ H s){ds:List Dt}{n:Nat}{A:Nh}{x y:V}{v u:Value}(hn:Dt.deps ds<=n)(hu:A.units+n+2<cLine)(h1:aU H (.tup ds) x)(h2:aU H (.tup ds) y)(r1:bi x v)(r2:bi y u)(prog:Nf)(w:Ni)(E K:M5)(hK:K (.bool false) s):wpAny d⁻¹ A (richCompare .Lt v u) K E s:=by
 unfold aU at h1 h2;obtain⟨a,xs,rfl,D,j⟩:=h1;obtain⟨b,ys,rfl,C,g⟩:=h2;cases r1;cases r2
 obtain⟨e,m,q,_⟩:=I.tuple (aS.of D);obtain⟨c,l,o,_⟩:=I.tuple (aS.of C);have hin:A.in1.units=A.units+1:=rfl;obtain⟨k,B⟩:=qJ I (n:=n) (A:=A.in1) ⋯ hn j g m l;have G:e.toArray.toList.zip c.toArray.toList=e.zip c++[]:=by rw[List.toList_toArray,List.toList_toArray,MJ]
 refine vn q o ⋯ ⟨false,?_,hK⟩;rw[G];exact pM k (λp r E K hK=>B p r prog w E K hK) (by show decide (e.toArray.size<c.toArray.size)=false;rw[Mh,Mh,k];simp)
theorem EO(I:Inv X pins σ H s){pre ds es:List Dt}{d e:Dt}{n:Nat}{A:Nh}{x y:V}{v u:Value}(hn:Dt.deps pre<=n)(hu:A.units+n+2<cLine)(h1:aU H (.tup (pre++d::ds)) x)(h2:aU H (.tup (pre++e::es)) y)(r1:bi x v)(r2:bi y u)
  (hf:∀{x0 y0:V} {i0 j0:Value},aU H d x0->aU H e y0->bi x0 i0->bi y0 j0->SeqAt.EqAt A.in1 s i0 j0 false) (prog:Nf) (w:Ni) (E K:M5) (hK:K (.bool false) s):wpAny d⁻¹ A (richCompare .Eq v u) K E s:=by
 unfold aU at h1 h2;obtain⟨a,xs,rfl,L,g⟩:=h1;obtain⟨b,ys,rfl,J,c⟩:=h2;cases r1;cases r2
 obtain⟨its,r,C,_⟩:=I.tuple (aS.of L);obtain⟨jts,q,B,_⟩:=I.tuple (aS.of J);obtain⟨xp,x0,xr,rfl,c1,Z⟩:=dv g;obtain⟨yp,y0,yr,rfl,Y,U⟩:=dv c;obtain⟨m,i0,l,rfl,T,S⟩:=d_ r;obtain⟨k,j0,j,rfl,R,O⟩:=d_ q;have hin:A.in1.units=A.units+1:=rfl;obtain⟨o,G⟩:=qJ I (n:=n) (A:=A.in1) ⋯ hn c1 Y T R;have M:(m++i0::l).toArray.toList.zip (k++j0::j).toArray.toList=m.zip k++(i0,j0)::l.zip j:=by
  rw[List.toList_toArray,List.toList_toArray,List.zip_append o,List.zip_cons_cons]
 exact vb C B ⋯ (by rw[M];exact pO o (λp D E K hK=>G p D prog w E K hK) (.inr λE K hK=>hf Z U S O prog w E K hK)) hK
theorem qL:∀(l:List Dt) (d:Dt) (ds:List Dt),Dt.deps l<=Dt.deps (l++d::ds)/\d.dep<=Dt.deps (l++d::ds)
 | [],d,ds=>by
  have:Dt.deps (d::ds)=max d.dep (Dt.deps ds):=by rw[Dt.deps]
  have a:Dt.deps []=0:=by rw[Dt.deps]
  exact⟨by rw[a];exact Mz _,by show d.dep<=Dt.deps (d::ds);omega⟩
 |y::l,d,ds=>by
  obtain⟨i1,i2⟩:=qL l d ds;have h1:Dt.deps (y::l)=max y.dep (Dt.deps l):=by rw[Dt.deps]
  have h2:Dt.deps (y::(l++d::ds))=max y.dep (Dt.deps (l++d::ds)):=by rw[Dt.deps]
  exact⟨by show Dt.deps (y::l)<=Dt.deps (y::(l++d::ds));omega,by show d.dep<=Dt.deps (y::(l++d::ds));omega⟩
end
end TL
namespace L2
open PySem PySem.Spec PyProof.Rows TL
def GJ:R2:=λx y H Q=>∃d e b,(b=true/\LtK d e\/b=false/\(LtK e d\/∃ds,d=.tup ds/\e=.tup ds))/\d.dep<=60/\e.dep<=60/\aU H d x/\aU H e y/\Q (.bl b) H
theorem FR{X:Cx}(hu:X.A.units+210<cLine):bg X (compareOp .Lt) GJ:=by
 intro pins s σ H x y v u Q I rx ry h;obtain⟨d,e,b,a,j,g,h1,h2,q⟩:=h;rcases a with⟨rfl,a⟩ | ⟨rfl,a | ⟨c,rfl,rfl⟩⟩
 ·exact(DO I a 60 X.A j ⋯ h1 h2 rx ry).2 _ _ _ _ ⟨.bl true,H,I,rfl,q⟩
 ·exact(EQ I a 60 X.A g ⋯ h2 h1 ry rx).2 _ _ _ _ ⟨.bl false,H,I,rfl,q⟩
 ·have hd':Dt.deps c+1<=60:=by rw[Dt.dep]at j;exact j
  exact Dc I (n:=60) ⋯ ⋯ h1 h2 rx ry _ _ _ _ ⟨.bl false,H,I,rfl,q⟩
def GM:R2:=λx y H Q=>∃d e b,(b=false/\(LtK d e\/LtK e d)\/b=true/\d=e)/\(∃ds,d=.tup ds)/\(∃es,e=.tup es)/\d.dep<=60/\e.dep<=60/\aU H d x/\aU H e y/\Q (.bl b) H
set_option tactic.hygienic true in
theorem F0{X:Cx}(hu:X.A.units+210<cLine):bg X (compareOp .Eq) GM:=by
 intro pins s σ H x y v u Q I rx ry h;obtain⟨d,e,b,hl,⟨ds,hds⟩,⟨es,hes⟩,hd,he,h1,h2,q⟩:=h;have hu1:X.A.in1.units=X.A.units+1:=rfl;have hdep:∀l:List Dt,Dt.dep (.tup l)=Dt.deps l+1:=λl=>by rw[Dt.dep]
 rcases hl with⟨rfl,hl | hl⟩ | ⟨rfl,rfl⟩
 ·cases hl with
  |int=>cases hds
  | «at» pre ds' es' hl=>
   rename_i d' e';have:=qL pre d' ds';rw[hdep]at hd;exact EO I (n:=60) ⋯ ⋯ h1 h2 rx ry (λa1 a2 a3 a4=>(DO I hl 60 X.A.in1 ⋯ ⋯ a1 a2 a3 a4).1) _ _ _ _ ⟨.bl false,H,I,rfl,q⟩
 ·cases hl with
  |int=>cases hds
  | «at» pre ds' es' hl=>
   rename_i d' e';have:=qL pre d' ds';rw[hdep]at he;exact EO I (n:=60) ⋯ ⋯ h1 h2 rx ry (λa1 a2 a3 a4=>(EQ I hl 60 X.A.in1 ⋯ ⋯ a2 a1 a4 a3).1) _ _ _ _ ⟨.bl false,H,I,rfl,q⟩
 ·subst hds
  rw[hdep]at hd;exact Hd hu pins s σ H x y v u Q I rx ry ⟨ds,⋯,aU.rd _ h1,aU.rd _ h2,q⟩
end L2
set_option maxHeartbeats 4000000
namespace Q52
open PySem L2 bJ QL
local macro_rules|`(tactic|ext)=>do
 let f(s:String):Lean.MacroM _:=(s.splitOn ",").toArray.mapM λx=>let i:=Lean.mkIdent (x.splitOn "."|>.foldl .mkStr .anonymous);`(Lean.Parser.Tactic.simpLemma|$i:term)
 let g(s:String):Lean.MacroM _:=(s.splitOn ",").toArray.mapM λx=>let i:=Lean.mkIdent (x.splitOn "."|>.foldl .mkStr .anonymous);`(Lean.Parser.Tactic.simpLemma|↓$i:term)
 let c:="yi,tB,Ep,C6,GU,DT,DM,y9,zE,CS,At,Fk,tC,HM,Jk,xH,Hx,HQ,Jv,Ds,Ek,uY,v4,uM,Dg,Hk,F5,yY,GX,vq,Eo,yz,Hl,GW,ET,ES,HF,F',As,tY,wa,D9,EV,HI,Gk,yj,uL,Es,rQ,Dy,vp,Hf,G2,IL,lO,sS,oQ,Jj,DR,FD,rU,Jm,Jp,HL,Jf,ux,Df,Hc,Hi,IM,Js,Ak,uH,G7,C8,EJ,C9,Hh,Hq,GQ,AG,CW,tG,Ai,L2.start,MF,List.map_nil,Mm,List.length_nil,List.replicate,List.cons_append,MV,Nat.reduceAdd,Nat.reduceSub,List.getElem?_cons_zero,ME,List.set_cons_zero,List.set_cons_succ,gO,Cx.blk,vi,Fr,E9,Ev,Cx.wish,Cx.nox,IR,lS";let d<-f (c++",J0,Lw,Lv,LI,KS,L0,Lg,LQ,E7,GJ,GM,Fl,Hu,EL,D5");let e<-f (c++",MJ,Option.some.injEq,V.int.injEq,V.str.injEq,V.ref.injEq,V.bl.injEq,List.cons.injEq,and_true,true_and,exists_and_left,exists_eq_left',exists_eq_left,decide_eq_true_eq,Bool.not_eq_true',decide_eq_false_iff_not,Fu,F9,Option.join_some,Nat.succ_eq_add_one,Nat.zero_add,exists_const,and_assoc,exists_eq,exists_eq',Int.reducePow,Int.reduceNeg,Int.reduceLT,or_true,true_or,reduceCtorEq,Int.zero_add,Bool.false_eq_true,Bool.not_true,Bool.not_false,Dl,GI,AA,z_,CI,BA,Ch,Cn,rI");let h<-g "reduceIte,Jq,I0,Jg,Jb,IY,IX,Jd,Jl";let e:=e++h
 `(tactic|((try dsimp only[$d,*]);(try simp only[$e,*])))
set_option hygiene false in
local macro_rules|`(tactic|grind)=>`(tactic|(clear h1;refine aj λN1 h1=>?_;ext))
set_option hygiene false in
local macro_rules|`(tactic|symm)=>`(tactic|(refine aj λN1 h1=>?_;ext))
set_option hygiene false in
local macro_rules|`(tactic|walk_at "oc")=>`(tactic|(clear h2;refine aj λN2 h2=>?_;ext))
set_option hygiene false in
local macro_rules|`(tactic|ac_nf)=>`(tactic|(refine aj λN2 h2=>?_;ext))
set_option hygiene false in
local macro_rules|`(tactic|walk_at "f")=>`(tactic|refine F.ok sc (λvs H Q E h=>by cases h;subst_vars;rfl) (λcdv A outer s H vs Q E hr h=>?_))
set_option hygiene false in
local macro_rules|`(tactic|walk_at "x")=>`(tactic|refine F.okX sc (λvs H Q E h=>?_) (λcdv A outer s H vs Q E hr h=>?_))
set_option hygiene false in
local macro_rules|`(tactic|walk_at "c")=>`(tactic|exact⟨rfl,rfl,rfl,by decide +kernel,rfl,by decide +kernel,by decide +kernel⟩)
def gZ(i:Nat):Stmt:=PySem.Challenge.pw_quiltlaw_k52_whole_trees_in_rows.main.body.getD i (.Pass ⟨0,0,0,0⟩)
def Fp:Stmt->List Stmt
 | .ClassDef (body:=b) ..=>b
 |_=>[]
def fz(i j:Nat):Stmt:=(Fp (gZ i)).getD j (.Pass ⟨0,0,0,0⟩)
section
variable {P:Nf}{w:Ni}{K:W.Frag}{mg:Nc}{base:Heap}
abbrev HX(z:Str)(c:Nat):Bool:=!(Builtin.Str.occurrences z ⟨#[c]⟩ 0 z.length 1).isEmpty
abbrev nY:Stmt:=gZ 25
def ic(r:M8)(z:Str):Bool:=r.all (HX z)
inductive ji(vs:List V)(H:Hp)(Q:VK)(_E:XK):Prop
 |mk (r:M8) (z:Str) (_:vs=[.str (tx r),.str z]) (_:r.length<=100000) (_:∀H',aD H H'->Q (.bl (ic r z)) H')
theorem zT:ay ["text","letters"] ["text","letters"] (ak nY):=by walk_at "c"
theorem J_{i c:Nat}(h:(tx r).cps[i]?=some c):r[i]?=some c:=by
 rw[<- h];show r[i]?=r.toArray[i]?;simp
theorem Ji(r:M8):(tx r).cps.size=r.length:=by show r.toArray.size=_;simp
theorem za{f:Addr}(F:cu K "only_of" "only_of" nY f fd)(nb:NB mg):↑aT 1 f fd ["text","letters"] ji:=by
 have sc:=zT;walk_at "f"
 ·obtain⟨r,z,rfl,hr',q⟩:=h
  refine⟨_,(ai (aF (aC (Eu rfl) rfl nb.all Hg (aa (cH ["sign"] [1] rfl (bI.of i⁻¹) i⁻¹ (GT (al 0))
    (λ_ _ _ _=>(ax (i:=0) (by show(["sign","letters"]:List Str).Nodup;decide +kernel) rfl (Or.inl rfl))) (λ_ _ _ _=>bW) (λ_ _ _ _=>(gn Bc (al 0) (al 1) (by with_unfolding_all rfl)))) ac)))),?_⟩
  ext;refine CZ (x:=tx r) (λi a σ g=>g=H/\a=((r.take i).map (HX z)).map V.bl/\i<=r.length/\∃x,σ=[x,some (.str z)]) ⟨rfl,rfl,Mz _,_,rfl⟩ ?_ ?_ ?_ ?_
  ·rintro i a σ g ⟨_,rfl,m,_⟩
   rw[Mb,Mb,MN];exact bf ⋯
  ·rintro i a σ g ⟨_,_,h,_⟩
   rw[Ji];exact h
  ·rintro i c a σ g n ⟨rfl,rfl,m,y,rfl⟩
   have b:=J_ n;have j:=(L'.mp b).1;ext;refine⟨?_,j⟩;rw[q0E,b];simp
  ·rintro a σ g ⟨rfl,rfl,_⟩ l k
   refine⟨_,aO.of ad,?_⟩;rw[Ji,MM];have e:(r.map (HX z)).all id=ic r z:=by unfold ic;rw[List.all_map];rfl
   rw[e];exact q _ (ae k)
abbrev nW:Stmt:=gZ 26
abbrev Ht:Str:="ABCDEFGHIJKLMNOPQRSTUVWXYZ"
def cW(r:M8):Bool:=decide (1<=r.length)&&decide (r.length<=4)&&ic r Ht
inductive mD(vs:List V)(H:Hp)(Q:VK)(_E:XK):Prop
 |mk (r:M8) (_:vs=[.str (tx r)]) (_:r.length<=100000) (_:∀H',aD H H'->Q (.bl (cW r)) H')
theorem zR:ay ["text"] ["text"] (ak nW):=by walk_at "c"
theorem zH{f:Addr}{t1 t2:Tok}(F:cu K "is_name" "is_name" nW f fd)(nb:NB mg)(ya3:mg "LONGEST_NAME"=some (.int 4 t1))(yaZ:mg "CAPITALS"=some (.str "ABCDEFGHIJKLMNOPQRSTUVWXYZ" t2))(yar:↑dO 1 "only_of" ["text","letters"] ji):↑aT 2 f fd ["text"] mD:=by
 have sc:=zR;walk_at "f"
 ·obtain⟨r,rfl,a,q⟩:=h
  refine⟨_,(ai (aF (uF (xC (bg.m0 lQ) (bg.m0 lQ) ah (aC aP rfl nb.len aR (aa (al 0) ac)) (dX (v:=.int 4) rfl ya3 ⟨_,rfl⟩)) (yn (aJ yar b⁻¹ rfl aW (aa (al 0) (aa (dX (v:=.str "ABCDEFGHIJKLMNOPQRSTUVWXYZ") rfl yaZ ⟨_,rfl⟩) ac))))))),?_⟩;ext;refine⟨by rw[av];exact am ⋯,?_⟩;rw[av];unfold cW at q
  by_cases h1:1<=r.length
  ·rw[q07 ⋯]
   by_cases h2:r.length<=4
   ·rw[q07 ⋯]
    refine⟨r,_,rfl,a,λc b=>?_⟩;have z:=q c b;rw[q09 h1,q09 h2]at z;exact z
   ·rw[q06 ⋯]
    have z:=q H (λ_ _ e=>e);rw[q09 h1,q08 h2]at z;exact z
  ·rw[q06 ⋯]
   have z:=q H (λ_ _ e=>e);rw[q08 h1]at z;exact z
abbrev eN:Stmt:=fz 27 0
inductive dF(K:W.Frag)(CF:Addr)(vs:List V)(H:Hp)(Q:VK)(E:XK):Prop
 |mk (a C dx l:Addr) (n:M8) (c:Int) (ps:bJ) (_:vs=[.ref a,.str (tx n),.int c,.ref l]) (_:H a=some (.ins C dx [])) (_:mG K C) (_:aq K C "name") (_:aq K C "cost") (_:aq K C "part_names") (_:H l=some (.lst (aH ps))) (_:ps.length<=1000) (_:(∀r∈n::ps,r.length<=100000)) (_:((∀r∈n::ps,cW r=true)/\1<=c/\c<=9->∀H',aD H H'->Q .non (aA H' a (.ins C dx [("name",.str (tx n)),("cost",.int c),("part_names",.ref l)])))) (_:(¬ ((∀r∈n::ps,cW r=true)/\1<=c/\c<=9)->∀H',aD H H'->E (.ref CF) none H'))
theorem uD:ay ["self","name","cost","part_names","text"] ["self","name","cost","part_names"] (ak eN):=by walk_at "c"
theorem uW{f zfa:Addr}(F:cu K "__init__" "Rule.__init__" eN f fd)(nb:NB mg)(zCa:mg "NoRule"=some (.ref zfa))(zxa:XR K zfa)(yaC:↑dO 2 "is_name" ["text"] mD):aT P w K mg base (bN P w) 3 f fd ["self","name","cost","part_names"] (dF K zfa):=by
 have sc:=uD;walk_at "x"
 ·obtain⟨a,C,I,l,n,c,ps,rfl,_⟩:=h;rfl
 ·obtain⟨a,C,I,l,n,c,ps,rfl,ha,O,n1,Z,Y,hl,hpl,o,good,bad⟩:=h
  refine⟨_,(af (bD PassesOwn.leaving rfl (cv (au zQ (bA (aa (al 1) ac)) (al 3))) (q02 4 sc.nd)
   (ai (bp (lY (o6 (aJ (CX:=bN P w) yaC.lift b⁻¹ rfl bq (aa (al 4) ac)) λ_=>rfl))
   (ai (dC zxa rfl rfl zCa (fo λ_ _ _ h=>h) (bH ac)))
   aK)))
   (af (bp (PW.pt (lK (aE (bg.m0 rF) (al 2) ah (aI _)) (iq (aE (bg.m0 ia) (al 2) ah (aI _)))))
   (ai (dC zxa rfl rfl zCa (fo λ_ _ _ h=>h) (bH ac)))
   aK)
   (af (dm (al 0) (al 1) rfl)
   (af (dm (al 0) (al 2) rfl)
   (ai (dm (al 0) (al 3) rfl)))))),?_⟩
  ext;refine⟨am ⋯,λp hp=>?_⟩;have m1:aD H (aA H p (.lst [V.str (tx n)])):=ae hp;have S:aA H p (.lst [V.str (tx n)]) p=some (.lst [V.str (tx n)]):=ad;generalize aA H p (.lst [V.str (tx n)])=H1 at m1 S ⊢;refine⟨_,S,_,m1 _ _ hl,by rw[ar];exact am (by simp;omega),λy L=>?_⟩;have M:[V.str (tx n)]++aH ps=aH (n::ps):=rfl;rw[M];have R:aD H1 (aA H1 y (.lst (aH (n::ps)))):=ae L;have G:aA H1 y (.lst (aH (n::ps))) y=some (.lst (aH (n::ps))):=ad;generalize aA H1 y (.lst (aH (n::ps)))=H2 at R G ⊢;generalize hqs:n::ps=qs at o good bad G ⊢;have m:=m1.trans R;refine⟨⟨_,aO.of G⟩,cM (xs:=aH qs) (λi σ q=>aD H2 q/\(∀r∈qs.take i,cW r=true)/\∃x,σ=[some (.ref a),some (.str (tx n)),some (.int c),some (.ref l),x]) ⟨λ_ _ e=>e,by simp,_,rfl⟩ (λi σ q _ h=>aO.of (h.1 _ _ G)) ?_ ?_⟩
  ·rintro i v σ q J ⟨u,j,x,rfl⟩
   have B:i<qs.length:=by have:=(L'.mp J).1;rwa [ar]at this
   rw[bc B]at J;cases J;ext;refine⟨_,rfl,o _ (Mi B),λH3 k=>⟨_,rfl,?_⟩⟩
   by_cases D:cW qs[i]=true
   ·rw[q06 (by rw[D];decide)]
    refine⟨u.trans k,λr hr=>?_⟩;rw[q0E,L_ B]at hr;rcases Mo.mp hr with h | h
    ·exact j r h
    ·rw[show r=qs[i] by simpa using h];exact D
   ·rw[q07 (by simpa using D)]
    exact⟨am ⋯,bad (λh=>D (h.1 _ (Mi B))) _ ((m.trans u).trans k)⟩
  ·rintro σ q ⟨u,j,x,rfl⟩
   rw[ar,MM]at j;have b:=m.trans u;ext
   by_cases U:c<1
   ·rw[q07 U]
    exact⟨am ⋯,bad (λh=>by omega) _ b⟩
   ·rw[q06 U]
    by_cases T:9<c
    ·rw[q07 T]
     exact⟨am ⋯,bad (λh=>by omega) _ b⟩
    ·rw[q06 T]
     have g:=good ⟨j,⋯,⋯⟩ q b;have l1:(cO "name" (V.str (tx n)) []).length<=1:=dB _ _ _;have l2:(cO "cost" (V.int c) (cO "name" (V.str (tx n)) [])).length<=2:=MG (dB _ _ _) ⋯;have d1:¬ (("name":Str)="cost"):=by decide +kernel
     have d2:¬ (("name":Str)="part_names"):=by decide +kernel
     have d3:¬ (("cost":Str)="part_names"):=by decide +kernel
     have e:cO "part_names" (V.ref l) (cO "cost" (V.int c) (cO "name" (V.str (tx n)) []))=[(("name":Str),V.str (tx n)),(("cost":Str),V.int c),(("part_names":Str),V.ref l)]:=by
      simp only[cO,q06 d1,q06 d2,q06 d3]
     refine⟨C,I,[],b _ _ ha,O,n1,by simp,C,I,_,ad,O,Z,⋯,C,I,_,ad,O,Y,⋯,?_⟩;rw[nj,nj,e];exact g
def bU(a:Addr)(H H':Hp):Prop:=∀b o,b≠a->H b=some o->H' b=some o
theorem bU.of(s:aD H H'):bU a H H':=λb o _ e=>s b o e
theorem bU.put(s:bU a H H'):bU a H (aA H' a o):=λb u hb e=>by rw[ao hb];exact s b u hb e
theorem bU.then(s:bU a H H')(t:aD H' H2):bU a H H2:=λb u hb e=>t b u (s b u hb e)
abbrev GO:Str:="abcdefghijklmnopqrstuvwxyz"
def kb(r:M8):Bool:=decide (r.length=1)&&ic r GO
def iB(n:M8)(ps:bJ)(c:Int):Prop:=(∀r∈n::ps,cW r=true)/\1<=c/\c<=9
abbrev eR:Stmt:=fz 28 0
inductive i5(K:W.Frag)(CF:Addr)(vs:List V)(H:Hp)(Q:VK)(E:XK):Prop
 |mk (a C dx:Addr) (n sg:M8) (c:Int) (_:vs=[.ref a,.str (tx n),.int c,.str (tx sg)]) (_:H a=some (.ins C dx [])) (_:mG K C) (_:(aq K C "name"/\aq K C "cost"/\aq K C "part_names"/\aq K C "sign")) (_:n.length<=100000) (_:sg.length<=100000) (_:(iB n [] c/\kb sg=true->∀(l:Addr) (H':Hp),bU a H H'->H l=none->H' l=some (.lst [])->H' a=some (.ins C dx [("name",.str (tx n)),("cost",.int c),("part_names",.ref l),("sign",.str (tx sg))])->Q .non H')) (_:(¬ (iB n [] c/\kb sg=true)->∀H',bU a H H'->E (.ref CF) none H'))
theorem vD:ay ["self","name","cost","sign"] ["self","name","cost","sign"] (ak eR):=by walk_at "c"
theorem v8{f zfa:Addr}{t3:Tok}(F:cu K "__init__" "CellRule.__init__" eR f fd)(nb:NB mg)(yaz:mg "SMALLS"=some (.str "abcdefghijklmnopqrstuvwxyz" t3))(zCa:mg "NoRule"=some (.ref zfa))(zxa:XR K zfa)
  (yar:↑dO 1 "only_of" ["text","letters"] ji) (zha:AW P w K mg base (bN P w) 3 "Rule" "__init__" ["self","name","cost","part_names"] (dF K zfa)):aT P w K mg base (bN P w) 4 f fd ["self","name","cost","sign"] (i5 K zfa):=by
 have sc:=vD;walk_at "x"
 ·obtain⟨a,C,k,n,j,c,rfl,_⟩:=h;rfl
 ·obtain⟨a,C,k,n,j,c,rfl,G,L,⟨S,R,O,M⟩,T,B,good,bad⟩:=h
  refine⟨_,(af (br (pS (E:=E) zha b⁻¹ rfl (bh λ_ _ _ h=>h) (aa (al 0) (aa (al 1) (aa (al 2) (aa (bA ac) ac))))))
   (af (bp (PW.pt (lK (aE oS (aC aP rfl nb.len aR (aa (al 3) ac)) ah (aI _)) (iq (lY (o6 (aJ (CX:=bN P w) yar.lift b⁻¹ rfl bq (aa (al 3) (aa (dX (v:=.str "abcdefghijklmnopqrstuvwxyz") rfl yaz ⟨_,rfl⟩) ac))) λ_=>rfl)))))
   (ai (dC zxa rfl rfl zCa (fo λ_ _ _ h=>h) (bH ac)))
   aK)
   (ai (dm (al 0) (al 3) rfl)))),?_⟩
  ext;refine⟨Mz _,λl u=>?_⟩;have m1:aD H (aA H l (.lst [])):=ae u;have D:aA H l (.lst []) l=some (.lst []):=ad;generalize aA H l (.lst [])=H1 at m1 D ⊢;have o:l≠a:=λe=>by rw[e,G]at u;cases u
  refine⟨a,C,k,l,n,c,[],rfl,m1 _ _ G,L,S,R,O,D,by simp,λr hr=>by rw[show r=n by simpa using hr];exact T,λok p g=>?_,λy p g=>bad (λh=>y h.1) _ (.of (m1.trans g))⟩;have q:bU a H (aA p a (.ins C k [("name",.str (tx n)),("cost",.int c),("part_names",.ref l)])):=(bU.of (m1.trans g)).put;have J:aA p a (.ins C k [("name",.str (tx n)),("cost",.int c),("part_names",.ref l)]) a=some (.ins C k [("name",.str (tx n)),("cost",.int c),("part_names",.ref l)]):=ad;have I:aA p a (.ins C k [("name",.str (tx n)),("cost",.int c),("part_names",.ref l)]) l=some (.lst []):=by rw[ao o];exact g _ _ D
  generalize aA p a (.ins C k [("name",.str (tx n)),("cost",.int c),("part_names",.ref l)])=H3 at q J I ⊢
  try dsimp only
  have m:kb j=true->j.length=1/\ic j GO=true:=λh=>by
   unfold kb at h;rw[q0M,q0X]at h;exact h
  refine⟨by rw[av];exact am ⋯,?_⟩;rw[av]
  by_cases h1:(j.length:Int)=1
  ·rw[q06 (λh=>h h1)]
   refine⟨j,_,rfl,B,λH4 b=>⟨_,rfl,?_⟩⟩
   by_cases x:ic j GO=true
   ·rw[q06 (by rw[x];decide)]
    have Z:¬ (("name":Str)="sign"):=by decide +kernel
    have Y:¬ (("cost":Str)="sign"):=by decide +kernel
    have U:¬ (("part_names":Str)="sign"):=by decide +kernel
    have e:cO "sign" (V.str (tx j)) [(("name":Str),V.str (tx n)),(("cost":Str),V.int c),(("part_names":Str),V.ref l)]=[(("name":Str),V.str (tx n)),(("cost":Str),V.int c),(("part_names":Str),V.ref l),(("sign":Str),V.str (tx j))]:=by
     simp only[cO,q06 Z,q06 Y,q06 U]
    refine⟨C,k,_,b _ _ J,L,M,by simp,?_⟩;rw[e];exact good ⟨ok,by unfold kb;rw[q09 ⋯,x];rfl⟩ l _ (q.then b).put u (by rw[ao o];exact b _ _ I) ad
   ·rw[q07 (by simpa using x)]
    exact⟨am ⋯,bad (λh=>x (m h.2).2) _ (q.then b)⟩
  ·rw[q07 h1]
   exact⟨am ⋯,bad (λh=>h1 (by have:=(m h.2).1;omega)) _ q⟩
inductive dD(K:W.Frag)(CF:Addr)(vs:List V)(H:Hp)(Q:VK)(E:XK):Prop
 |mk (a C dx:Addr) (n o1 o2:M8) (c:Int) (_:vs=[.ref a,.str (tx n),.int c,.str (tx o1),.str (tx o2)]) (_:H a=some (.ins C dx [])) (_:mG K C) (_:(aq K C "name"/\aq K C "cost"/\aq K C "part_names"/\aq K C "one"/\aq K C "other")) (_:n.length<=100000) (_:o1.length<=100000) (_:o2.length<=100000) (_:(iB n [o1,o2] c->∀(l:Addr) (H':Hp),bU a H H'->H l=none->H' l=some (.lst (aH [o1,o2]))->H' a=some (.ins C dx [("name",.str (tx n)),("cost",.int c),("part_names",.ref l),("one",.str (tx o1)),("other",.str (tx o2))])->Q .non H')) (_:(¬ iB n [o1,o2] c->∀H',bU a H H'->E (.ref CF) none H'))
theorem w4{c:Int}:cO "other" (V.str (tx o2)) (cO "one" (V.str (tx o1)) [(("name":Str),V.str (tx n)),(("cost":Str),V.int c),(("part_names":Str),V.ref l)])=[(("name":Str),V.str (tx n)),(("cost":Str),V.int c),(("part_names":Str),V.ref l),(("one":Str),V.str (tx o1)),(("other":Str),V.str (tx o2))]:=by
 have m:¬ (("name":Str)="one"):=by decide +kernel
 have k:¬ (("cost":Str)="one"):=by decide +kernel
 have j:¬ (("part_names":Str)="one"):=by decide +kernel
 have g:¬ (("name":Str)="other"):=by decide +kernel
 have e:¬ (("cost":Str)="other"):=by decide +kernel
 have b:¬ (("part_names":Str)="other"):=by decide +kernel
 have a:¬ (("one":Str)="other"):=by decide +kernel
 simp only[cO,q06 m,q06 k,q06 j,q06 g,q06 e,q06 b,q06 a]
abbrev cY:Stmt:=fz 29 0
theorem rW:ay ["self","name","cost","one","other"] ["self","name","cost","one","other"] (ak cY):=by walk_at "c"
theorem qb{f zfa:Addr}(F:cu K "__init__" "BesideRule.__init__" cY f fd)(nb:NB mg)
  (zha:AW P w K mg base (bN P w) 3 "Rule" "__init__" ["self","name","cost","part_names"] (dF K zfa)):aT P w K mg base (bN P w) 4 f fd ["self","name","cost","one","other"] (dD K zfa):=by
 have sc:=rW;walk_at "x"
 ·obtain⟨a,C,g,n,k,j,c,rfl,_⟩:=h;rfl
 ·obtain⟨a,C,g,n,k,j,c,rfl,D,y,⟨R,O,M,L,J⟩,S,v,u,good,bad⟩:=h
  refine⟨_,(af (br (pS (E:=E) zha b⁻¹ rfl (bh λ_ _ _ h=>h) (aa (al 0) (aa (al 1) (aa (al 2) (aa (bA (aa (al 3) (aa (al 4) ac))) ac))))))
   (af (dm (al 0) (al 3) rfl)
   (ai (dm (al 0) (al 4) rfl)))),?_⟩
  ext;refine⟨am ⋯,λl p=>?_⟩;have m1:aD H (aA H l (.lst [V.str (tx k),V.str (tx j)])):=ae p;have x:aA H l (.lst [V.str (tx k),V.str (tx j)]) l=some (.lst (aH [k,j])):=ad;generalize aA H l (.lst [V.str (tx k),V.str (tx j)])=H1 at m1 x ⊢;have m:l≠a:=λe=>by rw[e,D]at p;cases p
  refine⟨a,C,g,l,n,c,[k,j],rfl,m1 _ _ D,y,R,O,M,x,by simp,λr hr=>?_,λok o b=>?_,λq o b=>bad (λh=>q h) _ (.of (m1.trans b))⟩
  ·have T:r=n\/r=k\/r=j:=by simpa using hr
   rcases T with rfl | rfl | rfl
   ·exact S
   ·exact v
   ·exact u
  ·have B:bU a H (aA o a a⁻¹):=(bU.of (m1.trans b)).put
   have I:aA o a a⁻¹ a=some a⁻¹:=ad;have G:aA o a a⁻¹ l=some (.lst (aH [k,j])):=by rw[ao m];exact b _ _ x
   generalize aA o a a⁻¹=H3 at B I G ⊢
   try dsimp only
   refine⟨C,g,_,I,y,L,by simp,C,g,_,ad,y,J,?_,?_⟩
   ·exact MP (dB _ _ _) (by simp)
   ·rw[nj,w4]
    exact good ok l _ B.put p (by rw[ao m];exact G) ad
abbrev dJ:Stmt:=fz 30 0
theorem se:ay ["self","name","cost","one","other"] ["self","name","cost","one","other"] (ak dJ):=by walk_at "c"
theorem sQ{f zfa:Addr}(F:cu K "__init__" "AboveRule.__init__" dJ f fd)(nb:NB mg)
  (zha:AW P w K mg base (bN P w) 3 "Rule" "__init__" ["self","name","cost","part_names"] (dF K zfa)):aT P w K mg base (bN P w) 4 f fd ["self","name","cost","one","other"] (dD K zfa):=by
 have sc:=se;walk_at "x"
 ·obtain⟨a,C,g,n,k,j,c,rfl,_⟩:=h;rfl
 ·obtain⟨a,C,g,n,k,j,c,rfl,D,y,⟨R,O,M,L,J⟩,S,v,u,good,bad⟩:=h
  refine⟨_,(af (br (pS (E:=E) zha b⁻¹ rfl (bh λ_ _ _ h=>h) (aa (al 0) (aa (al 1) (aa (al 2) (aa (bA (aa (al 3) (aa (al 4) ac))) ac))))))
   (af (dm (al 0) (al 3) rfl)
   (ai (dm (al 0) (al 4) rfl)))),?_⟩
  ext;refine⟨am ⋯,λl p=>?_⟩;have m1:aD H (aA H l (.lst [V.str (tx k),V.str (tx j)])):=ae p;have x:aA H l (.lst [V.str (tx k),V.str (tx j)]) l=some (.lst (aH [k,j])):=ad;generalize aA H l (.lst [V.str (tx k),V.str (tx j)])=H1 at m1 x ⊢;have m:l≠a:=λe=>by rw[e,D]at p;cases p
  refine⟨a,C,g,l,n,c,[k,j],rfl,m1 _ _ D,y,R,O,M,x,by simp,λr hr=>?_,λok o b=>?_,λq o b=>bad (λh=>q h) _ (.of (m1.trans b))⟩
  ·have T:r=n\/r=k\/r=j:=by simpa using hr
   rcases T with rfl | rfl | rfl
   ·exact S
   ·exact v
   ·exact u
  ·have B:bU a H (aA o a a⁻¹):=(bU.of (m1.trans b)).put
   have I:aA o a a⁻¹ a=some a⁻¹:=ad;have G:aA o a a⁻¹ l=some (.lst (aH [k,j])):=by rw[ao m];exact b _ _ x
   generalize aA o a a⁻¹=H3 at B I G ⊢
   try dsimp only
   refine⟨C,g,_,I,y,L,by simp,C,g,_,ad,y,J,?_,?_⟩
   ·exact MP (dB _ _ _) (by simp)
   ·rw[nj,w4]
    exact good ok l _ B.put p (by rw[ao m];exact G) ad
inductive iY(K:W.Frag)(CF:Addr)(vs:List V)(H:Hp)(Q:VK)(E:XK):Prop
 |mk (a C dx:Addr) (n o1:M8) (c t:Int) (_:vs=[.ref a,.str (tx n),.int c,.str (tx o1),.int t]) (_:H a=some (.ins C dx [])) (_:mG K C) (_:(aq K C "name"/\aq K C "cost"/\aq K C "part_names"/\aq K C "part"/\aq K C "turning")) (_:n.length<=100000) (_:o1.length<=100000) (_:(iB n [o1] c/\0<=t/\t<=7->∀(l:Addr) (H':Hp),bU a H H'->H l=none->H' l=some (.lst (aH [o1]))->H' a=some (.ins C dx [("name",.str (tx n)),("cost",.int c),("part_names",.ref l),("part",.str (tx o1)),("turning",.int t)])->Q .non H')) (_:(¬ (iB n [o1] c/\0<=t/\t<=7)->∀H',bU a H H'->E (.ref CF) none H'))
theorem CP{c t:Int}:cO "turning" (V.int t) (cO "part" (V.str (tx o1)) [(("name":Str),V.str (tx n)),(("cost":Str),V.int c),(("part_names":Str),V.ref l)])=[(("name":Str),V.str (tx n)),(("cost":Str),V.int c),(("part_names":Str),V.ref l),(("part":Str),V.str (tx o1)),(("turning":Str),V.int t)]:=by
 have m:¬ (("name":Str)="part"):=by decide +kernel
 have k:¬ (("cost":Str)="part"):=by decide +kernel
 have j:¬ (("part_names":Str)="part"):=by decide +kernel
 have g:¬ (("name":Str)="turning"):=by decide +kernel
 have e:¬ (("cost":Str)="turning"):=by decide +kernel
 have b:¬ (("part_names":Str)="turning"):=by decide +kernel
 have a:¬ (("part":Str)="turning"):=by decide +kernel
 simp only[cO,q06 m,q06 k,q06 j,q06 g,q06 e,q06 b,q06 a]
abbrev eD:Stmt:=fz 31 0
theorem u_:ay ["self","name","cost","part","turning"] ["self","name","cost","part","turning"] (ak eD):=by walk_at "c"
theorem vw{f zfa:Addr}(F:cu K "__init__" "TurnRule.__init__" eD f fd)(nb:NB mg)(zCa:mg "NoRule"=some (.ref zfa))(zxa:XR K zfa)
  (zha:AW P w K mg base (bN P w) 3 "Rule" "__init__" ["self","name","cost","part_names"] (dF K zfa)):aT P w K mg base (bN P w) 4 f fd ["self","name","cost","part","turning"] (iY K zfa):=by
 have sc:=u_;walk_at "x"
 ·obtain⟨a,C,g,n,j,c,t,rfl,_⟩:=h;rfl
 ·obtain⟨a,C,g,n,j,c,t,rfl,D,x,⟨R,O,M,L,J⟩,S,u,good,bad⟩:=h
  refine⟨_,(af (br (pS (E:=E) zha b⁻¹ rfl (bh λ_ _ _ h=>h) (aa (al 0) (aa (al 1) (aa (al 2) (aa (bA (aa (al 3) ac)) ac))))))
   (af (bp (PW.pt (lK (aE (bg.m0 rF) (al 4) ah (aI _)) (iq (aE (bg.m0 ia) (al 4) ah (aI _)))))
   (ai (dC zxa rfl rfl zCa (fo λ_ _ _ h=>h) (bH ac)))
   aK)
   (af (dm (al 0) (al 3) rfl)
   (ai (dm (al 0) (al 4) rfl))))),?_⟩
  ext;refine⟨am ⋯,λl p=>?_⟩;have m1:aD H (aA H l (.lst [V.str (tx j)])):=ae p;have v:aA H l (.lst [V.str (tx j)]) l=some (.lst (aH [j])):=ad;generalize aA H l (.lst [V.str (tx j)])=H1 at m1 v ⊢;have k:l≠a:=λe=>by rw[e,D]at p;cases p
  refine⟨a,C,g,l,n,c,[j],rfl,m1 _ _ D,x,R,O,M,v,by simp,λr hr=>?_,λok m b=>?_,λq m b=>bad (λh=>q h.1) _ (.of (m1.trans b))⟩
  ·have T:r=n\/r=j:=by simpa using hr
   rcases T with rfl | rfl
   ·exact S
   ·exact u
  ·have o:bU a H (aA m a a⁻¹):=(bU.of (m1.trans b)).put
   have I:aA m a a⁻¹ a=some a⁻¹:=ad;have G:aA m a a⁻¹ l=some (.lst (aH [j])):=by rw[ao k];exact b _ _ v
   generalize aA m a a⁻¹=H3 at o I G ⊢
   try dsimp only
   by_cases B:t<0
   ·rw[q07 B]
    exact⟨am ⋯,bad (λh=>by omega) _ o⟩
   ·rw[q06 B]
    by_cases y:7<t
    ·rw[q07 y]
     exact⟨am ⋯,bad (λh=>by omega) _ o⟩
    ·rw[q06 y]
     refine⟨C,g,_,I,x,L,by simp,C,g,_,ad,x,J,?_,?_⟩
     ·exact MP (dB _ _ _) (by simp)
     ·rw[nj,CP]
      exact good ⟨ok,⋯,⋯⟩ l _ o.put p (by rw[ao k];exact G) ad
abbrev dE:Stmt:=fz 27 1
inductive cD(K:W.Frag)(vs:List V)(H:Hp)(Q:VK)(_E:XK):Prop
 |mk (a C dx l:Addr) (fs:List (Str×V)) (ps:bJ) (_:vs=[.ref a]) (_:H a=some (.ins C dx fs)) (_:mG K C) (_:aq K C "part_names") (_:fs.lookup ("part_names":Str)=some (V.ref l)) (_:H l=some (.lst (aH ps))) (_:cN H ps Q)
theorem sF:ay ["self"] ["self"] (ak dE):=by walk_at "c"
theorem fO{f:Addr}(F:cu K "parts" "Rule.parts" dE f fd)(nb:NB mg):↑aT 1 f fd ["self"] (cD K):=by
 have sc:=sF;walk_at "f"
 ·obtain⟨a,C,m,l,fs,ps,rfl,k,n,c,e,j,q⟩:=h
  refine⟨_,(ai (aF (c_ cR rfl nb.list g_ (aa (bM (al 0) rfl) ac)))),?_⟩;ext;refine⟨C,m,fs,k,n,c,V.ref l,e,l,rfl,_,.inl (aO.of j),λg b=>q g _ b ad (ae b)⟩
abbrev GF(n:M8)(c:Int)(l:Addr)(sg:M8):List (Str×V):=[("name",.str (tx n)),("cost",.int c),("part_names",.ref l),("sign",.str (tx sg))]
abbrev Dd(n:M8)(c:Int)(l:Addr)(o1 o2:M8):List (Str×V):=[("name",.str (tx n)),("cost",.int c),("part_names",.ref l),("one",.str (tx o1)),("other",.str (tx o2))]
abbrev Gx(n:M8)(c:Int)(l:Addr)(o1:M8)(t:Int):List (Str×V):=[("name",.str (tx n)),("cost",.int c),("part_names",.ref l),("part",.str (tx o1)),("turning",.int t)]
theorem kL(h:cW r=true):1<=r.length/\r.length<=4:=by
 unfold cW at h;rw[q0M,q0M,q0X,q0X]at h;exact h.1
theorem nS(h:kb r=true):r.length=1:=by
 unfold kb at h;rw[q0M,q0X]at h;exact h.1
theorem aj{a b:TS}{D:iO}{σ:St}(h:∀N:St->Hp->Prop,(∀σ2 H2,b D σ2 H2->N σ2 H2)->a {D with nx:=N} σ H):yi a b D σ H:=h (b D) λ_ _ z=>z
abbrev oA:Stmt:=gZ 60
inductive qd(vs:List V)(H:Hp)(Q:VK)(_E:XK):Prop
 |mk (i:Int) (_:vs=[.int i]) (_:Q (.bl true) H)
theorem y7:ay ["_law_x"] ["_law_x"] (ak oA):=by walk_at "c"
theorem xV{f:Addr}(F:cu K "_law_whole" "_law_whole" oA f fd)(nb:NB mg):↑aT 1 f fd ["_law_x"] qd:=by
 have sc:=y7;walk_at "f"
 ·obtain⟨i,rfl,q⟩:=h
  refine⟨_,(ai (aF (uF (aC fZ rfl nb.isinstance iH (aa (al 0) (aa (zZ (v:=.ty "int") rfl nb.int Ef rfl) ac))) (yn (HN (aC fZ rfl nb.isinstance iH (aa (al 0) (aa (zZ (v:=.ty "bool") rfl nb.bool FP rfl) ac)))))))),?_⟩;ext;refine⟨_,k9.int i,_,Ey K _,?_⟩;ext;refine⟨_,k9.int i,_,v_ K,?_⟩;exact q
structure RV where
 n:List Nat
 c:Int
 o1:List Nat
 o2:List Nat
 sg:List Nat
 t:Int
abbrev Yaa:=List (Nat×RV)
structure RC where
 rr:Addr
 cc:Addr
 cb:Addr
 ca:Addr
 ct:Addr
def RC.at(R:RC)(k:Nat):Addr:=match k with | 0=>R.cc | 1=>R.cb | 2=>R.ca | _=>R.ct
def w_(k:Nat)(l:Addr)(v:RV):List (Str×V):=match k with | 0=>GF v.n v.c l v.sg | 1=>Dd v.n v.c l v.o1 v.o2 | 2=>Dd v.n v.c l v.o1 v.o2 | _=>Gx v.n v.c l v.o1 v.t
def bw(k:Nat)(v:RV):bJ:=match k with | 0=>[] | 1=>[v.o1,v.o2] | 2=>[v.o1,v.o2] | _=>[v.o1]
def Jz(k:Nat)(v:RV):Prop:=match k with | 0=>iB v.n [] v.c/\kb v.sg=true | 1=>iB v.n [v.o1,v.o2] v.c | 2=>iB v.n [v.o1,v.o2] v.c | _=>iB v.n [v.o1] v.c/\0<=v.t/\v.t<=7
structure RV.small(v:RV):Prop where
 n:v.n.length<=1000
 o1:v.o1.length<=1000
 o2:v.o2.length<=1000
 sg:v.sg.length<=1000
structure RV.good(v:RV):Prop where
 n:cW v.n=true
 c1:1<=v.c
 c9:v.c<=9
 o1:cW v.o1=true
 o2:cW v.o2=true
 sg:kb v.sg=true
 t0:0<=v.t
 t7:v.t<=7
theorem RV.good.small{v:RV}(g:v.good):v.small:=⟨by have:=kL g.n;omega,by have:=kL g.o1;omega,by have:=kL g.o2;omega,by have:=nS g.sg;omega⟩
theorem RV.good.ok{v:RV}(g:v.good):∀k,Jz k v
 |0=>⟨⟨λr hr=>by rw[show r=v.n by simpa using hr];exact g.n,g.c1,g.c9⟩,g.sg⟩
 |1=>⟨λr hr=>by rcases(show r=v.n\/r=v.o1\/r=v.o2 by simpa using hr) with rfl | rfl | rfl<;>first | exact g.n | exact g.o1 | exact g.o2,g.c1,g.c9⟩
 |2=>⟨λr hr=>by rcases(show r=v.n\/r=v.o1\/r=v.o2 by simpa using hr) with rfl | rfl | rfl<;>first | exact g.n | exact g.o1 | exact g.o2,g.c1,g.c9⟩
 |_+3=>⟨⟨λr hr=>by rcases(show r=v.n\/r=v.o1 by simpa using hr) with rfl | rfl<;>first | exact g.n | exact g.o1,g.c1,g.c9⟩,g.t0,g.t7⟩
def jb(R:RC)(H:Hp)(k:Nat)(a:Addr)(v:RV):Prop:=∃dx l,H a=some (.ins (R.at k) dx (w_ k l v))/\H l=some (.lst (aH (bw k v)))
theorem jb.up(r:jb R H k a v)(s:aD H H'):jb R H' k a v:=by
 obtain⟨b,l,h1,h2⟩:=r;exact⟨b,l,s _ _ h1,s _ _ h2⟩
structure pi(K:W.Frag)(R:RC):Prop where
 i0:fQ K R.cc
 i1:fQ K R.cb
 i2:fQ K R.ca
 i3:fQ K R.ct
 a0:aq K R.cc "name"/\aq K R.cc "cost"/\aq K R.cc "part_names"/\aq K R.cc "sign"
 a1:aq K R.cb "name"/\aq K R.cb "cost"/\aq K R.cb "part_names"/\aq K R.cb "one"/\aq K R.cb "other"
 a2:aq K R.ca "name"/\aq K R.ca "cost"/\aq K R.ca "part_names"/\aq K R.ca "one"/\aq K R.ca "other"
 a3:aq K R.ct "name"/\aq K R.ct "cost"/\aq K R.ct "part_names"/\aq K R.ct "part"/\aq K R.ct "turning"
 r0:W.kitOne K (.ref R.cc) (.ref R.rr)=some true
 r1:W.kitOne K (.ref R.cb) (.ref R.rr)=some true
 r2:W.kitOne K (.ref R.ca) (.ref R.rr)=some true
 r3:W.kitOne K (.ref R.ct) (.ref R.rr)=some true
 s0:W.kitOne K (.ref R.cc) (.ref R.cc)=some true
 s1:W.kitOne K (.ref R.cb) (.ref R.cb)=some true
 s2:W.kitOne K (.ref R.ca) (.ref R.ca)=some true
 s3:W.kitOne K (.ref R.ct) (.ref R.ct)=some true
theorem pi.icls(rk:pi K R):∀k,fQ K (R.at k)
 |0=>rk.i0
 |1=>rk.i1
 |2=>rk.i2
 |_+3=>rk.i3
theorem pi.name(rk:pi K R):∀k,aq K (R.at k) "name"/\aq K (R.at k) "cost"/\aq K (R.at k) "part_names"
 |0=>⟨rk.a0.1,rk.a0.2.1,rk.a0.2.2.1⟩
 |1=>⟨rk.a1.1,rk.a1.2.1,rk.a1.2.2.1⟩
 |2=>⟨rk.a2.1,rk.a2.2.1,rk.a2.2.2.1⟩
 |_+3=>⟨rk.a3.1,rk.a3.2.1,rk.a3.2.2.1⟩
theorem i9(l:Addr)(v:RV):∀k,(w_ k l v).lookup ("name":Str)=some (V.str (tx v.n))/\(w_ k l v).lookup ("cost":Str)=some (V.int v.c)/\(w_ k l v).lookup ("part_names":Str)=some (V.ref l)/\(w_ k l v).lookup ("parts":Str)=none/\(w_ k l v).lookup ("told":Str)=none
 |0=>⟨rfl,rfl,rfl,rfl,rfl⟩
 |1=>⟨rfl,rfl,rfl,rfl,rfl⟩
 |2=>⟨rfl,rfl,rfl,rfl,rfl⟩
 |_+3=>⟨rfl,rfl,rfl,rfl,rfl⟩
theorem kQ{H1 H2:Hp}(hx:H1 x=none)(hd:H1 dx=none)(s:bU x (aA (aA H1 dx o) x o') H2):aD H1 H2:=
 λb u e=>s b u (aG e hx) (by rw[ao (aG e hx),ao (aG e hd)];exact e)
theorem DG{CX:kT}(h0:∃ps,b0 P w K mg base CX k C0 m ps s0)(h1:∃ps,b0 P w K mg base CX k C1 m ps s1)(h2:∃ps,b0 P w K mg base CX k C2 m ps s2)(h3:∃ps,b0 P w K mg base CX k C3 m ps s3) :
  pG P w K mg base CX k m [(C0,s0),(C1,s1),(C2,s2),(C3,s3)]:=⟨λo ho=>by
 simp only[Mq,List.not_mem_nil,or_false]at ho;rcases ho with rfl | rfl | rfl | rfl
 ·exact h0
 ·exact h1
 ·exact h2
 ·exact h3⟩
def oz(K:W.Frag)(R:RC):List (Addr×Sp):=[(R.cc,cD K),(R.cb,cD K),(R.ca,cD K),(R.ct,cD K)]
theorem tJ{R:RC}{k a}{v:RV}{Q:VK}{E:XK}(rk:pi K R)(r:jb R H k a v)(q:cN H (bw k v) Q) :
  ∃o∈oz K R,∃dx fs,H a=some (.ins o.1 dx fs)/\fs.lookup ("parts":Str)=none/\o.2 [.ref a] H Q E:=by
 obtain⟨dx,l,h1,h2⟩:=r;have c:cD K [.ref a] H Q E:=⟨a,R.at k,dx,l,_,_,rfl,h1,(rk.icls k).cl,(rk.name k).2.2,(i9 l v k).2.2.1,h2,q⟩;have b:(R.at k,cD K)∈oz K R:=by
  unfold oz
  match k with
  |0=>simp[RC.at]
  |1=>simp[RC.at]
  |2=>simp[RC.at]
  |_+3=>simp[RC.at]
 exact⟨_,b,dx,_,h1,(i9 l v k).2.2.2.1,c⟩
abbrev kD:Stmt:=gZ 55
abbrev jY:Str:="abcdefghijklmnopqrstuvwxyz"
def dQ(r:M8):Bool:=decide (1<=r.length)&&decide (r.length<=4)&&ic r jY&&decide ((met (cJ (tx r))).length=r.length)
inductive mJ(vs:List V)(H:Hp)(Q:VK)(_E:XK):Prop
 |mk (r:M8) (_:vs=[.str (tx r)]) (_:r.length<=1000) (_:∀H',aD H H'->Q (.bl (dQ r)) H')
theorem vf:ay ["text"] ["text"] (ak kD):=by walk_at "c"
theorem v5{f:Addr}{t1 t2:Tok}(F:cu K "are_signs" "are_signs" kD f fd)(nb:NB mg)(ybq:mg "MOST_SIGNS"=some (.int 4 t1))(yaz:mg "SMALLS"=some (.str "abcdefghijklmnopqrstuvwxyz" t2))(yar:↑dO 1 "only_of" ["text","letters"] ji):↑aT 2 f fd ["text"] mJ:=by
 have sc:=vf;walk_at "f"
 ·obtain⟨r,rfl,hr',q⟩:=h
  refine⟨_,(ai (aF (uF (xC (bg.m0 lQ) (bg.m0 lQ) ah (aC aP rfl nb.len aR (aa (al 0) ac)) (dX (v:=.int 4) rfl ybq ⟨_,rfl⟩)) (uF (aJ yar b⁻¹ rfl aW (aa (al 0) (aa (dX (v:=.str "abcdefghijklmnopqrstuvwxyz") rfl yaz ⟨_,rfl⟩) ac))) (yn (gn dn (Ce rfl (al 0) rfl nb.len rfl nb.set) (aC aP rfl nb.len aR (aa (al 0) ac)) (aI _))))))),?_⟩;ext;refine⟨by rw[av];exact am ⋯,?_⟩;rw[av];unfold dQ at q
  by_cases h1:1<=r.length
  ·rw[q07 ⋯]
   by_cases h2:r.length<=4
   ·rw[q07 ⋯]
    refine⟨r,_,rfl,⋯,λc b=>⟨_,rfl,?_⟩⟩;have z:=q c b;rw[q09 h1,q09 h2]at z;cases a:ic r jY with
    |false=>
     rw[a]at z;rw[q06 (by simp)];exact z
    |true=>
     rw[a]at z;rw[q07 rfl];refine⟨by rw[Ji];unfold scanBound;omega,by exact am ⋯,?_⟩;have e:decide (((met (cJ (tx r))).length:Int)=(r.length:Int))=decide ((met (cJ (tx r))).length=r.length):=by
      apply decide_eq_decide.mpr
      constructor<;>intro h<;>omega
     rw[e];exact z
   ·rw[q06 ⋯]
    have z:=q H (λ_ _ e=>e);rw[q09 h1,q08 h2]at z;exact z
  ·rw[q06 ⋯]
   have z:=q H (λ_ _ e=>e);rw[q08 h1]at z;exact z
def HS(y:Str×List Int):List V:=.str y.1::y.2.map V.int
theorem DX{α:Type}{l:List α}{i:Nat}{x:α}(h:l[i]?=some x):l.drop i=x::l.drop (i+1):=by
 obtain⟨a,e⟩:=L'.mp h;rw[List.drop_eq_getElem_cons a,e]
def xY(C:Addr)(H:Hp)(y:Str×List Int)(E:XK):Prop:=∀(t d:Addr) (H':Hp),aD H H'->H' t=some (.tup (HS y))->H' d=some (.xd [("why",.ref t)])->E (.ref C) (some d) H'
theorem xY.made(b:xY C H y E)(sm:aD H H'){p d:Addr}(hp:H' p=none)(hd:aA H' p (.tup (HS y)) d=none):E (.ref C) (some d) (aA (aA H' p (.tup (HS y))) d (.xd [("why",.ref p)])):=by
 have a:p≠d:=λx=>by rw[<- x,ad]at hd;cases hd
 exact b p d _ ((sm.trans (ae hp)).trans (ae hd)) (by rw[ao a,ad]) ad
structure GH(K:W.Frag)(R:RC):Prop where
 kit:∀i j,i<4->j<4->W.kitOne K (.ref (R.at i)) (.ref (R.at j))=some (decide (i=j))
abbrev kI:Stmt:=fz 5 0
theorem EH:ay ["self","why"] ["self","why"] (ak kI):=by walk_at "c"
theorem Dp{f:Addr}(F:cu K "__init__" "NoGrammar.__init__" kI f fd)(xs:W.XSt K C "why"):↑aT 1 f fd ["self","why"] (mU C "why"):=by
 have sc:=EH;refine F.ok sc (λvs H Q E h=>by obtain⟨_,_,h,_⟩:=h;rw[h];rfl) (λcdv A outer s H vs Q E hr h=>?_)
 ·obtain⟨a,v,rfl,c,q⟩:=h
  refine⟨_,(ai (AJ (pv 0) (pv 1) rfl)),?_⟩;ext;exact⟨C,c,xs,λd b=>q d b⟩
abbrev IU(z x:Str):Bool:=!(Builtin.Str.occurrences z x 0 z.length 1).isEmpty
def hU(sg:Str):Yaa->Nat->Option Nat
 | [],_=>none
 |r::rs,j=>if r.1=0/\IU sg (tx r.2.sg)=false then some j else hU sg rs (j+1)
def iV(sg st:M8)(rs:Yaa):Option (Str×List Int):=
 if dQ sg=false then some ("signs",[]) else if cW st=false then some ("start",[]) else if 24<rs.length then some ("rules",[(rs.length:Int)]) else
  match hU (tx sg) rs 0 with
  |some k=>some ("sign",[(k:Int)])
  |none=>none
abbrev fV:Stmt:=gZ 54
def cK(R:RC)(H:Hp)(as:Nb)(rs:Yaa):Prop:=as.length=rs.length/\∀(i:Nat) a r,as[i]?=some a->rs[i]?=some r->jb R H r.1 a r.2
theorem cK.up(h:cK R H as rs)(s:aD H H'):cK R H' as rs:=⟨h.1,λi a r e1 e2=>(h.2 i a r e1 e2).up s⟩
inductive iJ(R:RC)(C:Addr)(vs:List V)(H:Hp)(Q:VK)(E:XK):Prop
 |mk (sg st:M8) (a:Addr) (as:Nb) (rs:Yaa) (_:vs=[.str (tx sg),.str (tx st),.ref a]) (_:sg.length<=1000) (_:st.length<=1000) (_:H a=some (.lst (as.map V.ref))) (_:cK R H as rs) (_:(∀r∈rs,r.1<4)) (_:rs.length<=100) (_:(iV sg st rs=none->∀H',aD H H'->Q .non H')) (_:∀y,iV sg st rs=some y->xY C H y E)
theorem oI:ay ["signs","start","rules","k","rule"] ["signs","start","rules"] (ak fV):=by walk_at "c"
theorem oG{f zda:Addr}{t1:Tok}(F:cu K "check_made_of" "check_made_of" fV f fd)(nb:NB mg)(rk:pi K R)(rk4:GH K R)(ybp:mg "MOST_RULES"=some (.int 24 t1))(zBb:mg "CellRule"=some (.ref R.cc))
  (zua:mg "NoGrammar"=some (.ref zda)) (zna:XI P w K mg base 1 zda "why") (ya2:↑dO 2 "are_signs" ["text"] mJ) (yaC:↑dO 2 "is_name" ["text"] mD):aT P w K mg base (bN P w) 3 f fd ["signs","start","rules"] (iJ R zda):=by
 have sc:=oI;walk_at "x"
 ·obtain⟨sg,I,a,Y,j,rfl,_⟩:=h;rfl
 ·obtain⟨sg,I,a,Y,j,rfl,a2,hst,ha,L,a4,hn,good,bad⟩:=h
  refine⟨_,(af (bp (lY (o6 (aJ (CX:=bN P w) ya2.lift b⁻¹ rfl bq (aa (al 0) ac)) λ_=>rfl))
   (ai (eX zna b⁻¹ rfl rfl zua (eW λ_ _ _ h=>h) (aa (aN (bH ac)) ac)))
   aK)
   (af (bp (lY (o6 (aJ (CX:=bN P w) yaC.lift b⁻¹ rfl bq (aa (al 1) ac)) λ_=>rfl))
   (ai (eX zna b⁻¹ rfl rfl zua (eW λ_ _ _ h=>h) (aa (aN (bH ac)) ac)))
   aK)
   (af (bp (aE (bg.m0 ia) (aC aV rfl nb.len aR (aa (al 2) ac)) (dX (v:=.int 24) rfl ybp ⟨_,rfl⟩) (aI _))
   (ai (eX zna b⁻¹ rfl rfl zua (eW λ_ _ _ h=>h) (aa (aN (bH (aa (aC aV rfl nb.len aR (aa (al 2) ac)) ac))) ac)))
   aK)
   (ai (bD PassesOwn.leaving rfl (pX rfl nb.enumerate (aa (al 2) ac)) (fg (n:=2) rfl (aM (q02 3 sc.nd) (aM (q02 4 sc.nd) cz)))
   (ai (bp (PW.pt (iu (o6 (aC fZ rfl nb.isinstance iH (aa (al 4) (aa (dX (v:=.ref _) rfl zBb rfl) ac))) λ_=>rfl) (ig (aE u8 (bM (al 4) rfl) (al 0) (by with_unfolding_all rfl)))))
   (ai (eX zna b⁻¹ rfl rfl zua (eW λ_ _ _ h=>h) (aa (aN (bH (aa (al 3) ac))) ac)))
   aK))))))),?_⟩
  have b:∀(m:Hp) (y:Str×List Int),aD H m->iV sg I j=some y->∀p,m p=none->1<=sizeLine/\∀d,aA m p (.tup (HS y)) d=none->E (.ref zda) (some d) (aA (aA m p (.tup (HS y))) d (.xd [("why",.ref p)])):=
   λm y B hy p hp=>⟨am ⋯,λd hd=>(bad y hy).made B hp hd⟩
  symm;refine⟨sg,rfl,a2,λH1 J=>⟨_,rfl,?_⟩⟩;unfold iV at good b;cases e1:dQ sg with
  |false=>
   rw[q07 rfl];rw[q07 e1]at b;exact⟨am ⋯,b H1 _ J rfl⟩
  |true=>
  rw[q06 nofun];rw[q06 (by rw[e1];decide)]at good b;refine h1 _ _ ?_;clear h1;ac_nf;refine⟨I,rfl,⋯,λH2 a1=>⟨_,rfl,?_⟩⟩;have c:=J.trans a1;cases e2:cW I with
  |false=>
   rw[q07 rfl];rw[q07 e2]at b;exact⟨am ⋯,b H2 _ c rfl⟩
  |true=>
  rw[q06 nofun];rw[q06 (by rw[e2];decide)]at good b;refine h2 _ _ ?_;clear h2;have D:=c _ _ ha;have q:(Y.map V.ref).length=j.length:=by rw[Mb];exact L.1
  refine aj λN3 h3=>?_;ext;refine⟨_,aO.of D,?_⟩;rw[q]
  by_cases U:24<j.length
  ·rw[q07 ⋯]
   rw[q07 U]at b;refine⟨_,aO.of D,am ⋯,?_⟩;rw[q];exact b H2 _ c rfl
  rw[q06 ⋯];rw[q06 U]at good b;refine h3 _ _ ?_;clear h3;ext;refine⟨_,aO.of D,?_⟩;refine nK (xs:=Y.map V.ref) (λi σ m=>aD H m/\hU (tx sg) (j.drop i) i=hU (tx sg) j 0/\∃x y,σ=[some (.str (tx sg)),some (.str (tx I)),some (.ref a),x,y]) ⟨c,rfl,_,_,rfl⟩ ?_ ?_ ?_
  ·rintro i σ m _ ⟨B,_⟩
   exact aO.of (B _ _ ha)
  ·rintro i x σ H3 T G ⟨B,S,x1,y1,rfl⟩ hT
   have O:i<j.length:=by have:=(L'.mp G).1;rw[q]at this;exact this
   obtain⟨l,a3,rfl⟩:∃l,Y[i]?=some l/\V.ref l=x:=by
    rw[Md]at G;cases e:Y[i]? with
    |none=>rw[e]at G;cases G
    |some l=>rw[e]at G;exact⟨l,rfl,q0Q G⟩
   have C:j[i]?=some j[i]:=L_ O;have M:=a4 _ (Mi O);generalize j[i]=r at C M;rw[DX C]at S;have k:aD H (aA H3 T (.tup [V.int (i:Int),V.ref l])):=B.trans (ae hT);have eT:aA H3 T (.tup [V.int (i:Int),V.ref l]) T=some (.tup [V.int (i:Int),V.ref l]):=ad;generalize aA H3 T (.tup [V.int (i:Int),V.ref l])=H4 at k eT ⊢;have rr:=(L.2 i l r a3 C).up k;obtain⟨dx,pl,u,_⟩:=id rr;ext;refine⟨_,aS.of eT,rfl,_,_,rfl,_,_,rfl,rfl,?_⟩;refine⟨_,(rk.icls r.1).ty u,_,rk4.kit r.1 0 M nofun,?_⟩;have g:(if r.1=0/\IU (tx sg) (tx r.2.sg)=false then some i else hU (tx sg) (j.drop (i+1)) (i+1))=hU (tx sg) j 0:=S
   by_cases Z:r.1=0
   ·rw[q07 (by simp[Z])]
    obtain⟨r0,v⟩:=r;have a5:r0=0:=Z;subst a5;refine⟨l,rfl,_,_,_,u,rk.i0.cl,rk.a0.2.2.2,_,rfl,_,rfl,?_⟩;cases o:IU (tx sg) (tx v.sg) with
    |false=>
     rw[q07 o];rw[q07 ⟨rfl,o⟩]at g;rw[<- g]at b;exact⟨am ⋯,b H4 _ k rfl⟩
    |true=>
     rw[q06 (by rw[show(!(Builtin.Str.occurrences (tx sg) (tx v.sg) 0 (tx sg).length 1).isEmpty)=true from o];decide)];rw[q06 (λz=>by rw[o]at z;exact q0O z.2 nofun)]at g;exact⟨k,g⟩
   ·rw[q06 (by simp[Z])]
    rw[q06 (λz=>Z z.1)]at g;exact⟨k,g⟩
  ·rintro σ m ⟨B,S,x,y,rfl⟩
   ext;rw[q,List.drop_of_length_le (My _)]at S;refine good ?_ m B;rw[<- S];rfl
def jA(m:List (Str×List Nat))(z:Str)(i:Nat):List (Str×List Nat):=m.map λq=>if q.1=z then(q.1,q.2++[i]) else q
structure vk(H0:Hp)(p:Addr)(t:NT)(H:Hp):Prop where
 same:aD H0 H
 at_:dy H p t
 fresh:∀x∈t,H0 x.2.1=none
 nodup:((jK t).map (·.1)).Nodup
theorem rD(t:NT):(jK t).length=t.length:=by unfold jK;rw[Mb]
theorem sf(m:List (Str×List Nat))(z:Str):(b6 m z).length<=m.length+1:=by
 unfold b6;split
 ·omega
 ·rw[Mx];simp
theorem i8(m:List (Str×List Nat))(z:Str)(i:Nat):(jA m z i).map (·.1)=m.map (·.1):=by
 unfold jA;rw[Mp]
 apply q0I;intro q _;simp only[Function.comp]
 split<;>rfl
theorem AO{m:List (Str×List Nat)}{j i:Nat}{q:Str×List Nat}(nd:(m.map (·.1)).Nodup)(hj:m[j]?=some q):m.set j (q.1,q.2++[i])=jA m q.1 i:=by
 unfold jA;apply List.ext_getElem?;intro k;rw[Md,List.getElem?_set];have b:j<m.length:=(L'.mp hj).1
 by_cases e:j=k
 ·subst e
  rw[q07 rfl,q07 b,hj];simp
 ·rw[q06 e]
  cases c:m[k]? with
  |none=>rfl
  |some y=>
   have a:y.1≠q.1:=by
    intro h;have h1:(m.map (·.1))[j]?=some q.1:=by rw[Md,hj];rfl
    have h2:(m.map (·.1))[k]?=some q.1:=by rw[Md,c];simp[h]
    exact e ((List.getElem?_inj (L'.mp h1).1 nd).mp (h1.trans h2.symm))
   simp[a]
theorem vk.free{t:NT}(N:vk H0 p t H){l:Addr}(h:H l=none):H0 l=none:=N.same.free h
theorem o9{te:TE}{σ:St}{H0 H:Hp}{t:NT}{z:Str}{i:Nat}{Q:VK}(hp:H0 p=none)(hv:σ[i]?=some (some (.ref p)))(hte:∀R:VK,R (.str z) H->te σ H R)(N:vk H0 p t H)(hn:t.length<sizeLine)
  (h:∀(H':Hp) (t':NT) (j:Nat) (x:Str×Addr×List Nat),vk H0 p t' H'->t'[j]?=some x->x.1=z->jK t'=b6 (jK t) z->t'.length<=t.length+1->(∀a o,a≠p->H a=some o->H' a=some o)->Q (.ref x.2.1) H'):wW (CI i) te (DR sS) σ H Q:=by
 refine⟨.ref p,hv,p,rfl,.inl ⟨_,.inl N.at_.dict⟩,hte _ ⟨Mz _,λl m=>?_⟩⟩;have k:=N.free m;refine N.at_.setdef m hn λH' t' j x w v u g r n=>h H' t' j x ⟨λb o e=>n b o (λq=>by rw[q,hp]at e;exact nomatch e) (N.same b o e),w,λy c=>?_,?_⟩ v u g ?_ n
 ·rcases r y c with q | q
  ·exact N.fresh y q
  ·rw[q];exact k
 ·rw[g];exact m5 N.nodup
 ·have:=sf (jK t) z
  rw[<- g,rD,rD]at this;exact this
theorem vk.put{t:NT}{j k:Nat}{x:Str×Addr×List Nat}(N:vk H0 p t H)(hj:t[j]?=some x) :
  vk H0 p (t.set j (x.1,x.2.1,x.2.2++[k])) (aA H x.2.1 (.lst (xQ (x.2.2++[k]))))/\jK (t.set j (x.1,x.2.1,x.2.2++[k]))=jA (jK t) x.1 k:=by
 have a:=Me hj;have e:jK (t.set j (x.1,x.2.1,x.2.2++[k]))=jA (jK t) x.1 k:=by
  rw[FH];exact AO (q:=(x.1,x.2.2)) N.nodup (by unfold jK;rw[Md,hj];rfl)
 refine⟨⟨eG N.same (N.fresh x a),N.at_.put hj,λy b=>?_,?_⟩,e⟩
 ·rcases List.mem_or_eq_of_mem_set b with q | q
  ·exact N.fresh y q
  ·rw[q];exact N.fresh x a
 ·rw[e,i8];exact N.nodup
abbrev e_:Stmt:=gZ 56
theorem l5:ay ["start","rules","numbers","k","rule","part"] ["start","rules"] (ak e_):=by walk_at "c"
def fP(m:List (Str×List Nat))(i:Nat)(r:Nat×RV):List (Str×List Nat):=((bw r.1 r.2).map tx).foldl b6 (jA (b6 m (tx r.2.n)) (tx r.2.n) i)
def gU:Nat->Yaa->List (Str×List Nat)->List (Str×List Nat)
 |_,[],m=>m
 |i,r::rs,m=>gU (i+1) rs (fP m i r)
theorem mz{m:List (Str×List Nat)}{z:Str}{n:Nat}(h:∀q∈m,q.2.length<=n):∀q∈b6 m z,q.2.length<=n:=by
 unfold b6;split
 ·exact h
 ·intro q a
  rcases Mo.mp a with z1 | z1
  ·exact h q z1
  ·rw[Mc.mp z1];exact Mz _
theorem o7:∀{zs:Ng} {m:List (Str×List Nat)} {n:Nat},(∀q∈m,q.2.length<=n)->∀q∈zs.foldl b6 m,q.2.length<=n
 | [],_,_,h=>h
 |z::zs,_,_,h=>o7 (zs:=zs) (mz h)
theorem xi{m:List (Str×List Nat)}{i n:Nat}{r:Nat×RV}(h:∀q∈m,q.2.length<=n):∀q∈fP m i r,q.2.length<=n+1:=by
 unfold fP;refine o7 λq b=>?_;unfold jA at b;obtain⟨c,a,rfl⟩:=MR.mp b;have:=mz h c a
 split
 ·rw[Mx];simp;exact this
 ·omega
theorem rJ:∀{rs:Yaa} {i n:Nat} {m:List (Str×List Nat)},(∀q∈m,q.2.length<=n)->∀q∈gU i rs m,q.2.length<=n+rs.length
 | [],_,_,_,h=>h
 |r::rs,i,n,m,h=>λq hq=>by
  have:=rJ (rs:=rs) (i:=i+1) (xi (i:=i) (r:=r) h) q hq;rw[Mm];omega
theorem g9:∀{rs:Yaa} {i:Nat} {m:List (Str×List Nat)} {r:Nat×RV},gU i (rs++[r]) m=fP (gU i rs m) (i+rs.length) r
 | [],i,m,r=>rfl
 |r0::rs,i,m,r=>by
  show gU (i+1) (rs++[r]) (fP m i r0)=fP (gU (i+1) rs (fP m i r0)) (i+(rs.length+1)) r;rw[g9,show i+1+rs.length=i+(rs.length+1) by omega]
theorem yt(k:Nat)(v:RV):(bw k v).length<=2:=by
 match k with
 |0=>simp[bw]
 |1=>simp[bw]
 |2=>simp[bw]
 |_+3=>simp[bw]
def bo(z:Str)(rs:Yaa):List (Str×List Nat):=gU 0 rs [(z,[])]
inductive gN(K:W.Frag)(R:RC)(vs:List V)(H:Hp)(Q:VK)(_E:XK):Prop
 |mk (z:Str) (a:Addr) (as:Nb) (rs:Yaa) (_:vs=[.str z,.ref a]) (_:H a=some (.lst (as.map V.ref))) (_:cK R H as rs) (_:rs.length<=100) (_:∀p H' t,H p=none->dy H' p t->jK t=bo z rs->(∀x∈t,H x.2.1=none)->aD H H'->Q (.ref p) H')
theorem mj{f:Addr}(F:cu K "numbers_by_name" "numbers_by_name" e_ f fd)(nb:NB mg)(rk:pi K R)(yay:↑pG 1 "parts" (oz K R)):↑aT 2 f fd ["start","rules"] (gN K R):=by
 have sc:=l5;walk_at "f"
 ·obtain⟨z,a,as,rs,rfl,ha,Y,hn,q⟩:=h
  refine⟨_,(af (q01 2 sc.nd (Ft (E5 (pv 0) (bA ac) Fv) rfl rfl (by simp) nofun))
   (af (bD PassesOwn.never rfl (pX rfl nb.enumerate (aa (pv 1) ac)) (fg (n:=2) rfl (aM (q02 3 sc.nd) (aM (q02 4 sc.nd) cz)))
   (af (br (q03 (q9 (pv 2) (bM (pv 4) rfl) (bA ac) ⟨rfl,rfl,rfl,rfl⟩) (aa (pv 3) ac)))
   (ai (bD PassesOwn.never rfl (cv (xo yay b⁻¹ aW (pv 4))) (q02 5 sc.nd)
   (ai (br (q9 (pv 2) (pv 5) (bA ac) ⟨rfl,rfl,rfl,rfl⟩)))))))
   (ai (aF (pv 2))))),?_⟩
  ext;intro p hp;refine⟨Mz _,λl hl=>?_⟩;have B:l≠p:=λe=>by rw[e,ad]at hl;exact nomatch hl
  have a1:H l=none:=by rw[ao B]at hl;exact hl
  have a8:a≠p:=λe=>by rw[e,hp]at ha;exact nomatch ha
  have c0:a≠l:=λe=>by rw[e,a1]at ha;exact nomatch ha
  refine⟨by rw[ao (Ne.symm B),ad],[(.inr z,.ref l)],rfl,by simp,as.map V.ref,aO.of (by rw[ao a8,ao c0,ao a8];exact ha),?_⟩;refine nK (xs:=as.map V.ref) (λi σ C=>aD H C/\∃t,dy C p t/\(∀x∈t,H x.2.1=none)/\((jK t).map (·.1)).Nodup/\jK t=gU 0 (rs.take i) [(z,[])]/\t.length<=1+3*i/\∃x y u,σ=[some (.str z),some (.ref a),some (.ref p),x,y,u]) ?_ ?_ ?_ ?_
  ·refine⟨λb o e=>?_,[(z,l,[])],⟨by rw[ad];rfl,λx c=>?_,by simp⟩,λx c=>?_,by simp[jK],rfl,by simp,_,_,_,rfl⟩
   ·have h1:b≠p:=λq=>by rw[q,hp]at e;exact nomatch e
    have h2:b≠l:=λq=>by rw[q,a1]at e;exact nomatch e
    rw[ao h1,ao h2,ao h1];exact e
   ·rw[Mc.mp c,ao B,ad];rfl
   ·rw[Mc.mp c];exact a1
  ·rintro i σ C _ ⟨sm,_⟩
   exact aO.of (sm _ _ ha)
  ·rintro i x σ H1 T c ⟨sm,t,N,fr,nd,em,hlen,x1,y1,u1,rfl⟩ hT
   have a4:i<rs.length:=by have:=(L'.mp c).1;rw[Mb,Y.1]at this;exact this
   obtain⟨g,b2,rfl⟩:∃g,as[i]?=some g/\V.ref g=x:=by
    rw[Md]at c;cases e:as[i]? with
    |none=>rw[e]at c;cases c
    |some g=>rw[e]at c;exact⟨g,rfl,q0Q c⟩
   have Z:rs[i]?=some rs[i]:=L_ a4;generalize rs[i]=r at Z;have rr:=Y.2 i g r b2 Z;have O:aD H (aA H1 T (.tup [V.int (i:Int),V.ref g])):=sm.trans (ae hT);have gT:∀b o,H1 b=some o->aA H1 T (.tup [V.int (i:Int),V.ref g]) b=some o:=ae hT;have eT:aS K (aA H1 T (.tup [V.int (i:Int),V.ref g])) T [V.int (i:Int),V.ref g]:=aS.of ad;have N2:=N.grow gT;generalize aA H1 T (.tup [V.int (i:Int),V.ref g])=H2 at O gT eT N2 ⊢;clear gT N hT sm H1;simp only[CS,At,lS,Fk];refine⟨_,_,rfl,eT,rfl,_,_,rfl,_,_,rfl,rfl,?_⟩;refine aj λN1 h1=>?_;have a3:=rr.up O;have NI:vk H p t H2:=⟨O,N2,fr,nd⟩;have hz:sizeLine>1000:=bf nofun;obtain⟨dx,pl,L,_⟩:=id a3;ext;refine o9 (z:=tx r.2.n) hp rfl (λS hS=>⟨_,rfl,g,_,dx,_,_,rfl,L,(rk.icls r.1).cl,(rk.name r.1).1,(i9 pl r.2 r.1).1,hS⟩) NI ⋯ λH3 t3 j x N3 hj c hm a6 hk=>?_;have U:=N3.at_.list x (Me hj);refine⟨.inl ⟨rfl,_,aO.of U⟩,_,rfl,_,U,?_,h1 _ _ ?_⟩
   ·have h2:(x.1,x.2.2)∈b6 (jK t) (tx r.2.n):=by rw[<- hm];exact MR.mpr ⟨x,Me hj,rfl⟩
    have h3:=mz (rJ (rs:=rs.take i) (i:=0) (n:=0) (m:=[(z,[])]) (λq hq=>by rw[Mc.mp hq];exact Mz _)) (z:=tx r.2.n) (x.1,x.2.2) (by rw[<- em];exact h2);rw[MN]at h3;unfold xQ;rw[Mb];have h4:x.2.2.length<=100:=by simp at h3;omega
    omega
   clear h1;obtain⟨J,D⟩:=N3.put (k:=i) hj;have a5:(t3.set j (x.1,x.2.1,x.2.2++[i])).length<=t.length+1:=by rw[List.length_set];exact a6
   have D:jK (t3.set j (x.1,x.2.1,x.2.2++[i]))=jA (b6 (jK t) (tx r.2.n)) (tx r.2.n) i:=by rw[D,hm,c]
   have eI:xQ (x.2.2++[i])=xQ x.2.2++[V.int (i:Int)]:=by unfold xQ;rw[Mn];rfl
   rw[eI]at J;generalize t3.set j (x.1,x.2.1,x.2.2++[i])=t4 at J D a5;generalize aA H3 x.2.1 (.lst (xQ x.2.2++[V.int (i:Int)]))=H4 at J ⊢;clear hk U hj N3 hm a6 c NI N2 L a3;have b1:=rr.up J.same;have hpk:=yt r.1 r.2;ext;refine tJ rk b1 λlp H5 B a9 a2=>⟨lp,rfl,⟨_,aO.of a9⟩,?_⟩;have b3:lp≠p:=λe=>by rw[e,J.at_.dict]at B;exact nomatch B
   refine cM (xs:=aH (bw r.1 r.2)) (λn σ C=>n<=(bw r.1 r.2).length/\∃M,vk H p M C/\jK M=(((bw r.1 r.2).take n).map tx).foldl b6 (jA (b6 (jK t) (tx r.2.n)) (tx r.2.n) i)/\M.length<=t.length+1+n/\C lp=some (.lst (aH (bw r.1 r.2)))/\∃u,σ=[some (.str z),some (.ref a),some (.ref p),some (.int (i:Int)),some (.ref g),u])
    ⟨Mz _,t4,⟨J.same.trans a2,J.at_.grow a2,J.fresh,J.nodup⟩,D,a5,a9,_,rfl⟩ ?_ ?_ ?_
   ·rintro n σ C _ ⟨_,M,_,_,_,I,_⟩
    exact aO.of I
   ·rintro n v σ C hv ⟨hn1,M,N',G,a7,I,u,rfl⟩
    have a0:n<(bw r.1 r.2).length:=by have:=(L'.mp hv).1;rwa [ar]at this
    rw[bc a0]at hv;cases hv;ext;refine o9 (z:=tx (bw r.1 r.2)[n]) hp rfl (λS hS=>⟨_,rfl,hS⟩) N' ⋯ λH6 t6 j x N6 hj c b4 hl6 hk=>?_;refine⟨a0,t6,N6,?_,⋯,hk _ _ b3 I⟩;rw[b4,G,q0E,L_ a0,Mn,List.foldl_append]
    rfl
   ·rintro σ C ⟨_,M,N',G,a7,I,u,rfl⟩
    rw[ar,MM]at G;refine⟨N'.same,M,N'.at_,N'.fresh,N'.nodup,?_,?_,_,_,_,rfl⟩
    ·rw[G,q0E,Z,em]
     show _=gU 0 (rs.take i++[r]) _;rw[g9,MN,MZ (q0N a4),Nat.zero_add]
     rfl
    ·rw[ar]at a7;omega
  ·rintro σ C ⟨sm,t,N,fr,_,em,_,x,y,u,rfl⟩
   ext;refine q p C t hp N ?_ fr sm;rw[em,Mb,Y.1,MM];rfl
def ij(sg st:M8)(rs:Yaa):Option (Str×List Int):=
 match iV sg st rs with
 |some y=>some y
 |none=>if 8<(bo (tx st) rs).length then some ("names",[((bo (tx st) rs).length:Int)]) else none
def il(sg st:M8)(lk pn:Addr):List (Str×V):=[("signs",.str (tx sg)),("start",.str (tx st)),("kept",.ref lk),("numbers",.ref pn)]
def dU(R:RC)(H:Hp)(C dx a:Addr)(sg st:M8)(as:Nb)(rs:Yaa):Prop:=
 ∃lk pn t,H a=some (.ins C dx (il sg st lk pn))/\H lk=some (.lst (as.map V.ref))/\cK R H as rs/\dy H pn t/\jK t=bo (tx st) rs
def vy(R:RC)(H:Hp)(C dx a:Addr)(sg st:M8)(as:Nb)(rs:Yaa)(lk pn:Addr)(t:NT):Prop:=
 H a=some (.ins C dx (il sg st lk pn))/\H lk=some (.lst (as.map V.ref))/\cK R H as rs/\dy H pn t/\jK t=bo (tx st) rs
theorem vy.f{st:M8}{lk pn:Addr}{t:NT}(g:vy R H C dx a sg st as rs lk pn t):dU R H C dx a sg st as rs:=⟨lk,pn,t,g⟩
theorem dU.up{st:M8}(g:dU R H C dx a sg st as rs)(s:aD H H'):dU R H' C dx a sg st as rs:=by
 obtain⟨c,b,t,h1,h2,k,j,e⟩:=g;exact⟨c,b,t,s _ _ h1,s _ _ h2,k.up s,j.grow s,e⟩
def Fm(a C:Addr)(H:Hp)(y:Str×List Int)(E:XK):Prop:=∀(t d:Addr) (H':Hp),bU a H H'->H' t=some (.tup (HS y))->H' d=some (.xd [("why",.ref t)])->E (.ref C) (some d) H'
theorem F8(k:Nat)(l:Addr)(v:RV):w_ k l v≠[]:=λe=>by
 have:=(i9 l v k).1;rw[e]at this;exact nomatch this
theorem cK.upX(h:cK R H as rs)(ha:H a=some (.ins C dx []))(s:bU a H H'):cK R H' as rs:=by
 refine⟨h.1,λi b r g c=>?_⟩;obtain⟨d,l,h1,h2⟩:=h.2 i b r g c;refine⟨d,l,s _ _ (λe=>?_) h1,s _ _ (λe=>?_) h2⟩
 ·rw[e,ha]at h1
  have:=q0Q h1;exact q0O (HO.ins.inj this).2.2.symm (F8 _ _ _)
 ·rw[e,ha]at h2;cases h2
abbrev eQ:Stmt:=fz 53 0
inductive jm(K:W.Frag)(R:RC)(CF:Addr)(vs:List V)(H:Hp)(Q:VK)(E:XK):Prop
 |mk (a C dx l:Addr) (sg st:M8) (as:Nb) (rs:Yaa) (_:vs=[.ref a,.str (tx sg),.str (tx st),.ref l]) (_:H a=some (.ins C dx [])) (_:mG K C) (_:(aq K C "signs"/\aq K C "start"/\aq K C "kept"/\aq K C "numbers")) (_:sg.length<=1000) (_:st.length<=1000) (_:H l=some (.lst (as.map V.ref))) (_:cK R H as rs) (_:(∀r∈rs,r.1<4)) (_:rs.length<=100) (_:(ij sg st rs=none->∀H' lk pn t,bU a H H'->vy R H' C dx a sg st as rs lk pn t->H lk=none->H pn=none->(∀x∈t,H x.2.1=none)->Q .non H')) (_:∀y,ij sg st rs=some y->Fm a CF H y E)
theorem we:ay ["self","signs","start","rules"] ["self","signs","start","rules"] (ak eQ):=by walk_at "c"
theorem v9{f zda:Addr}{t1:Tok}(F:cu K "__init__" "Grammar.__init__" eQ f fd)(nb:NB mg)(ybg:mg "MOST_NAMES"=some (.int 8 t1))
  (zua:mg "NoGrammar"=some (.ref zda)) (zna:XI P w K mg base 1 zda "why") (ya1:dO P w K mg base (bN P w) 3 "check_made_of" ["signs","start","rules"] (iJ R zda)) (ya7:↑dO 2 "numbers_by_name" ["start","rules"] (gN K R)) :
  aT P w K mg base (bN P w) 4 f fd ["self","signs","start","rules"] (jm K R zda):=by
 have sc:=we;walk_at "x"
 ·obtain⟨a,C,g,l,b,c,G,O,rfl,_⟩:=h;rfl
 ·obtain⟨a,C,g,l,b,c,G,O,rfl,ha,cl,⟨n1,n2,n3,n4⟩,a8,a7,hl,S,a9,hn,good,bad⟩:=h
  refine⟨_,(af (br (aJ (E:=E) ya1 b⁻¹ rfl (bh λ_ _ _ h=>h) (aa (al 1) (aa (al 2) (aa (al 3) ac)))))
   (af (dm (al 0) (al 1) rfl)
   (af (dm (al 0) (al 2) rfl)
   (af (dm (al 0) (c_ cR rfl nb.list g_ (aa (al 3) ac)) rfl)
   (af (dm (al 0) (aJ (CX:=bN P w) ya7.lift b⁻¹ rfl bq (aa (al 2) (aa (al 3) ac))) rfl)
   (ai (bp (aE (bg.m0 ia) (aC uo rfl nb.len aR (aa (bM (al 0) rfl) ac)) (dX (v:=.int 8) rfl ybg ⟨_,rfl⟩) (aI _))
   (ai (eX zna b⁻¹ rfl rfl zua (eW λ_ _ _ h=>h) (aa (aN (bH (aa (aC uo rfl nb.len aR (aa (bM (al 0) rfl) ac)) ac))) ac)))
   aK))))))),?_⟩
  symm;refine⟨b,c,l,G,O,rfl,a8,a7,hl,S,a9,hn,λg0 H1 M=>h1 _ _ ?_,λy hy t d H' sm ht hd=>bad y (by unfold ij;rw[hy]) t d H' (.of sm) ht hd⟩;clear h1;have a5:=M _ _ ha;have a3:l≠a:=λe=>by rw[e,ha]at hl;cases hl
  ac_nf;refine⟨C,g,_,a5,cl,n1,by simp,h2 _ _ ?_⟩;clear h2;have J:bU a H (aA H1 a (.ins C g [("signs",.str (tx b))])):=(bU.of M).put;have a2:aA H1 a (.ins C g [("signs",.str (tx b))]) a=some (.ins C g [("signs",.str (tx b))]):=ad;show _;change yi _ _ _ _ (aA H1 a (.ins C g [("signs",.str (tx b))]));generalize aA H1 a (.ins C g [("signs",.str (tx b))])=H2 at J a2 ⊢;clear M a5;refine aj λN3 h3=>?_;ext;have d1:¬ (("signs":Str)="start"):=by decide +kernel
  have e3:cO "start" (V.str (tx c)) [(("signs":Str),V.str (tx b))]=[(("signs":Str),V.str (tx b)),(("start":Str),V.str (tx c))]:=by simp only[cO,q06 d1]
  refine⟨C,g,_,a2,cl,n2,by simp,?_⟩;rw[e3];refine h3 _ _ ?_;clear h3;have r:bU a H (aA H2 a (.ins C g [(("signs":Str),V.str (tx b)),(("start":Str),V.str (tx c))])):=J.put;have a1:aA H2 a (.ins C g [(("signs":Str),V.str (tx b)),(("start":Str),V.str (tx c))]) a=some (.ins C g [(("signs":Str),V.str (tx b)),(("start":Str),V.str (tx c))]):=ad;generalize aA H2 a (.ins C g [(("signs":Str),V.str (tx b)),(("start":Str),V.str (tx c))])=H3 at r a1 ⊢;clear J a2;have a4:=r _ _ a3 hl;refine aj λN4 h4=>?_;ext;refine⟨_,.inl (aO.of a4),λj m=>?_⟩;have U:j≠a:=λe=>by rw[e,a1]at m;cases m
  have hlk0:j≠l:=λe=>by rw[e,a4]at m;cases m
  have sk:aD H3 (aA H3 j (.lst (G.map V.ref))):=ae m;have ek:aA H3 j (.lst (G.map V.ref)) j=some (.lst (G.map V.ref)):=ad;have c0:H j=none:=by
   cases e:H j with
   |none=>rfl
   |some u=>rw[r _ _ U e]at m;cases m
  generalize aA H3 j (.lst (G.map V.ref))=H4 at sk ek ⊢;have d2:¬ (("signs":Str)="kept"):=by decide +kernel
  have d3:¬ (("start":Str)="kept"):=by decide +kernel
  have e4:cO "kept" (V.ref j) [(("signs":Str),V.str (tx b)),(("start":Str),V.str (tx c))]=[(("signs":Str),V.str (tx b)),(("start":Str),V.str (tx c)),(("kept":Str),V.ref j)]:=by simp only[cO,q06 d2,q06 d3]
  refine⟨C,g,_,sk _ _ a1,cl,n3,by simp,?_⟩;rw[e4];refine h4 _ _ ?_;clear h4;have n:bU a H (aA H4 a l⁻¹):=(r.then sk).put;have D:aA H4 a l⁻¹ a=some l⁻¹:=ad;have Y:aA H4 a l⁻¹ j=some (.lst (G.map V.ref)):=by rw[ao U];exact ek
  generalize aA H4 a l⁻¹=H5 at n D Y ⊢;refine aj λN5 h5=>?_;ext;refine⟨tx c,l,G,O,rfl,n _ _ a3 hl,S.upX ha n,hn,λk H6 t o hN hm b1 L=>?_⟩;have T:k≠a:=λe=>by rw[e,D]at o;cases o
  have hpk:k≠j:=λe=>by rw[e,Y]at o;cases o
  have b4:H k=none:=by
   cases e:H k with
   |none=>rfl
   |some u=>rw[n _ _ T e]at o;cases o
  have b3:∀x∈t,H x.2.1=none:=λx hx=>by
   have B:=b1 x hx;cases e:H x.2.1 with
   |none=>rfl
   |some u=>rw[n _ _ (λz=>by rw[z,D]at B;cases B) e]at B;cases B
  have d4:¬ (("signs":Str)="numbers"):=by decide +kernel
  have d5:¬ (("start":Str)="numbers"):=by decide +kernel
  have d6:¬ (("kept":Str)="numbers"):=by decide +kernel
  have e6:cO "numbers" (V.ref k) [(("signs":Str),V.str (tx b)),(("start":Str),V.str (tx c)),(("kept":Str),V.ref j)]=il b c j k:=by unfold il;simp only[cO,q06 d4,q06 d5,q06 d6]
  have a6:=L _ _ D;refine⟨C,g,_,a6,cl,n4,by simp,?_⟩;rw[e6];refine h5 _ _ ?_;clear h5;have q:bU a H (aA H6 a (.ins C g (il b c j k))):=(n.then L).put;have gf:vy R (aA H6 a (.ins C g (il b c j k))) C g a b c G O j k t:=by
   refine⟨ad,by rw[ao U];exact L _ _ Y,S.upX ha q,⟨by rw[ao T];exact hN.dict,λx hx=>?_,hN.apart⟩,hm⟩;have hq:=hN.list x hx;rw[ao (λe=>by rw[e,a6]at hq;cases hq)];exact hq
  have a0:aA H6 a (.ins C g (il b c j k)) a=some (.ins C g (il b c j k)):=ad;have Z:aA H6 a (.ins C g (il b c j k)) k=some (.dK (xO t)):=by rw[ao T];exact hN.dict
  generalize aA H6 a (.ins C g (il b c j k))=H7 at q gf a0 Z ⊢;have I:(xO t).length=(bo (tx c) O).length:=by rw[<- hm];unfold xO jK;rw[Mb,Mb]
  ext;refine⟨C,g,_,a0,cl,n4,_,rfl,k,rfl,_,Z,?_⟩;rw[I]
  by_cases h8:8<(bo (tx c) O).length
  ·rw[q07 ⋯]
   refine⟨C,g,_,a0,cl,n4,_,rfl,k,rfl,_,Z,am ⋯,λp hp=>⟨am ⋯,λd hd=>?_⟩⟩;rw[I]at hd ⊢;have b2:p≠d:=λx=>by rw[<- x,ad]at hd;cases hd
   refine bad ("names",[((bo (tx c) O).length:Int)]) (by unfold ij;rw[g0];simp only[];rw[q07 h8]) p d _ (((q.then (ae hp))).then (ae hd)) (by rw[ao b2,ad];rfl) ad
  ·rw[q06 ⋯]
   exact good (by unfold ij;rw[g0];simp only[];rw[q06 h8]) H7 j k t q gf c0 b4 b3
abbrev eO:Stmt:=fz 53 2
inductive b8(R:RC)(C:Addr)(vs:List V)(H:Hp)(Q:VK)(_E:XK):Prop
 |mk (a dx:Addr) (sg st:M8) (as:Nb) (rs:Yaa) (k:Nat) (b:Addr) (_:vs=[.ref a,.int (k:Int)]) (_:dU R H C dx a sg st as rs) (_:as[k]?=some b) (_:Q (.ref b) H)
theorem vH:ay ["self","k"] ["self","k"] (ak eO):=by walk_at "c"
theorem uw{f:Addr}(F:cu K "rule" "Grammar.rule" eO f fd)(nb:NB mg)(cl:mG K C)(na:aq K C "signs"/\aq K C "start"/\aq K C "kept"/\aq K C "numbers"):↑aT 1 f fd ["self","k"] (b8 R C):=by
 have sc:=vH;walk_at "f"
 ·obtain⟨a,m,sg,st,as,rs,k,b,rfl,g,j,q⟩:=h
  obtain⟨c,pn,t,l,e,hrs,hN,hm⟩:=id g;have hu:=hr.units;refine⟨_,(ai (aF (az aQ (bM (al 0) rfl) (al 1) (λ_ _=>rfl)))),?_⟩;ext;exact⟨C,m,_,l,cl,na.2.2.1,_,rfl,c,rfl,_,aO.of e,_,a_ (by rw[Md,j];rfl),q⟩
abbrev eJ:Stmt:=fz 53 3
inductive jf(R:RC)(C:Addr)(vs:List V)(H:Hp)(Q:VK)(_E:XK):Prop
 |mk (a dx:Addr) (sg st:M8) (as:Nb) (rs:Yaa) (_:vs=[.ref a]) (_:dU R H C dx a sg st as rs) (_:Q (.int (rs.length:Int)) H)
theorem uz:ay ["self"] ["self"] (ak eJ):=by walk_at "c"
theorem v7{f:Addr}(F:cu K "many" "Grammar.many" eJ f fd)(nb:NB mg)(cl:mG K C)(na:aq K C "signs"/\aq K C "start"/\aq K C "kept"/\aq K C "numbers"):↑aT 1 f fd ["self"] (jf R C):=by
 have sc:=uz;walk_at "f"
 ·obtain⟨a,k,sg,st,as,rs,rfl,g,q⟩:=h
  obtain⟨c,pn,t,j,e,b,hN,hm⟩:=id g;have hu:=hr.units;refine⟨_,(ai (aF (aC aV rfl nb.len aR (aa (bM (al 0) rfl) ac)))),?_⟩;ext;refine⟨C,k,_,j,cl,na.2.2.1,_,rfl,c,rfl,_,aO.of e,?_⟩;rw[Mb,b.1];exact q
theorem tS(z:Str):∀t:NT,(jK t).lookup z=(t.find? λx=>decide (x.1=z)).map (·.2.2)
 | []=>rfl
 |x::t=>by
  have ih:=tS z t;unfold jK at ih ⊢;rw[MF,List.lookup_cons,List.find?_cons]
  by_cases e:x.1=z
  ·simp[e]
  ·have e':(z==x.1)=false:=by simpa using λh=>e h.symm
   rw[e',ih];simp[e]
abbrev bY:Stmt:=fz 53 5
inductive cr(R:RC)(C CN:Addr)(vs:List V)(H:Hp)(Q:VK)(E:XK):Prop
 |mk (a dx:Addr) (sg st:M8) (as:Nb) (rs:Yaa) (z:Str) (_:vs=[.ref a,.str z]) (_:dU R H C dx a sg st as rs) (_:(∀ns,(bo (tx st) rs).lookup z=some ns->∀l H',H l=none->H' l=some (.lst (xQ ns))->aD H H'->Q (.ref l) H')) (_:((bo (tx st) rs).lookup z=none->E (.ref CN) none H))
theorem mq:ay ["self","name"] ["self","name"] (ak bY):=by walk_at "c"
theorem mn{f yaa:Addr}(F:cu K "numbers_of" "Grammar.numbers_of" bY f fd)(nb:NB mg)(cl:mG K C)(na:aq K C "signs"/\aq K C "start"/\aq K C "kept"/\aq K C "numbers")(ya8:mg "NoName"=some (.ref yaa))(ybj:XR K yaa):aT P w K mg base (bN P w) 1 f fd ["self","name"] (cr R C yaa):=by
 have sc:=mq;walk_at "x"
 ·obtain⟨a,j,r,p,D,u,z,rfl,_⟩:=h;rfl
 ·obtain⟨a,j,r,p,D,u,z,rfl,g,q,x⟩:=h
  obtain⟨lk,k,t,o,hk,hrs,e,B⟩:=id g;have m:=hr.units;refine⟨_,(af (bp (EK (tT (MP (MT (by decide:1<=64) _) m) (al 1) (bM (al 0) rfl)) (by with_unfolding_all rfl))
   (ai (dC ybj rfl rfl ya8 (fo λ_ _ _ h=>h) (bH ac)))
   aK)
   (ai (aF (c_ cR rfl nb.list g_ (aa (vo (MP (MT (by decide:1<=64) _) m) (bM (al 0) rfl) (al 1) (λ_ _=>rfl)) ac))))),?_⟩
  ext;have b:=tS z t;have val:=yf z t;rw[B]at b;refine⟨C,j,_,o,cl,na.2.2.2,_,rfl,k,rfl,?_⟩;refine⟨_,.inl ⟨_,.inr z,.inl e.dict,rfl,rfl⟩,?_⟩;cases c:t.find? (λx=>decide (x.1=z)) with
  |none=>
   rw[c]at b val;rw[val];rw[q07 (by simp)];exact⟨am ⋯,x b⟩
  |some y=>
   rw[c]at b val;rw[val];rw[q06 (by simp)];have v:=e.list y (List.mem_of_find?_eq_some c);exact⟨C,j,_,o,cl,na.2.2.2,_,rfl,k,rfl,_,.inl ⟨_,.inr z,.inl e.dict,rfl,val.symm⟩,_,rfl,_,.inl (aO.of v),λl n=>q _ b l _ n ad (ae n)⟩
abbrev uT:Stmt:=gZ 14
inductive j_(K:W.Frag)(CF:Addr)(vs:List V)(H:Hp)(Q:VK)(E:XK):Prop
 |mk (a b:Addr) (p q:bJ) (r c r' c':Nat) (_:vs=[.ref a,.ref b]) (_:H a=some (.lst (aH p))) (_:H b=some (.lst (aH q))) (_:fJ p r c) (_:fJ q r' c') (_:0<r) (_:r<=6) (_:c<=6) (_:0<r') (_:r'<=6) (_:c'<=6) (_:(c=c'/\r+r'<=6->cN H (p++q) Q)) (_:(¬ (c=c'/\r+r'<=6)->E (.ref CF) none H))
theorem CU:ay ["one","other"] ["one","other"] (ak uT):=by walk_at "c"
theorem CM{f zia:Addr}{tk:Tok}(F:cu K "above" "above" uT f fd)(nb:NB mg)(yah:mg "MOST"=some (.int 6 tk))(zCb:mg "NoFit"=some (.ref zia))(zrb:XR K zia):aT P w K mg base (bN P w) 1 f fd ["one","other"] (j_ K zia):=by
 have sc:=CU;walk_at "x"
 ·obtain⟨a,b,p,q,r,c,D,I,rfl,_⟩:=h;rfl
 ·obtain⟨a,b,p,q,r,c,D,I,rfl,B,y,o,n,m,hr1,hc1,g,hr1',hc1',C,e⟩:=h
  refine⟨_,(af (bp (PW.pt (lK (aE oS n⁻¹ (aC aP rfl nb.len aR (aa (az aQ (al 1) ah (λ_ _=>rfl)) ac)) (aI _)) (iq (aE (bg.m0 ia) (au (bg.m0 bO) (aC aV rfl nb.len aR (aa (al 0) ac)) (aC aV rfl nb.len aR (aa (al 1) ac))) (dX (v:=.int 6) rfl yah ⟨_,rfl⟩) (aI _)))))
   (ai (dC zrb rfl rfl zCb (fo λ_ _ _ h=>h) (bH ac)))
   aK)
   (ai (aF (au zQ (al 0) (al 1))))),?_⟩
  ext;obtain⟨u,x⟩:=dS o m;obtain⟨j,k⟩:=dS n g;refine⟨_,aO.of B,_,a_ (bc u),_,rfl,by rw[av];exact am ⋯,_,aO.of y,_,a_ (bc j),_,rfl,by rw[av];exact am ⋯,?_⟩;rw[av,av,x,k]
  by_cases h1:(c:Int)=(I:Int)
  ·rw[q06 (λh=>h h1)]
   refine⟨_,aO.of B,_,aO.of y,?_⟩;rw[ar,ar,o.1,n.1]
   by_cases h2:6<(r:Int)+(D:Int)
   ·rw[q07 h2]
    exact⟨am ⋯,e ⋯⟩
   ·rw[q06 h2]
    refine⟨_,B,_,y,by rw[ar,ar,o.1,n.1];exact am ⋯,λl G=>?_⟩;refine C ⟨⋯,⋯⟩ l _ G ?_ (ae G);rw[ad];unfold aH;rw[Mn]
  ·rw[q07 h1]
   exact⟨am ⋯,e ⋯⟩
abbrev qX:Stmt:=gZ 13
def put2(p q:bJ):bJ:=(p.zip q).map λx=>x.1++x.2
inductive iM(K:W.Frag)(CF:Addr)(vs:List V)(H:Hp)(Q:VK)(E:XK):Prop
 |mk (a b:Addr) (p q:bJ) (r c r' c':Nat) (_:vs=[.ref a,.ref b]) (_:H a=some (.lst (aH p))) (_:H b=some (.lst (aH q))) (_:fJ p r c) (_:fJ q r' c') (_:0<r) (_:r<=6) (_:c<=6) (_:0<r') (_:r'<=6) (_:c'<=6) (_:(r=r'/\c+c'<=6->cN H (put2 p q) Q)) (_:(¬ (r=r'/\c+c'<=6)->E (.ref CF) none H))
theorem Co:ay ["one","other"] ["one","other"] (ak qX):=by walk_at "c"
theorem Bo{f zia:Addr}{tk:Tok}(F:cu K "beside" "beside" qX f fd)(nb:NB mg)(yah:mg "MOST"=some (.int 6 tk))(zCb:mg "NoFit"=some (.ref zia))(zrb:XR K zia):aT P w K mg base (bN P w) 1 f fd ["one","other"] (iM K zia):=by
 have sc:=Co;walk_at "x"
 ·obtain⟨a,b,p,q,r,c,r',c',rfl,_⟩:=h;rfl
 ·obtain⟨a,b,p,q,r,c,r',c',rfl,R,O,L,J,U,hr1,hc1,C,hr1',hc1',a0,u⟩:=h
  refine⟨_,(af (bp (PW.pt (lK (aE oS (aC aV rfl nb.len aR (aa (al 0) ac)) (aC aV rfl nb.len aR (aa (al 1) ac)) (aI _)) (iq (aE (bg.m0 ia) (au (bg.m0 bO) n⁻¹ (aC aP rfl nb.len aR (aa (az aQ (al 1) ah (λ_ _=>rfl)) ac))) (dX (v:=.int 6) rfl yah ⟨_,rfl⟩) (aI _)))))
   (ai (dC zrb rfl rfl zCb (fo λ_ _ _ h=>h) (bH ac)))
   aK)
   (ai (aF (cH ["first","second"] [] rfl (bI.of i⁻¹) i⁻¹ (DA rfl nb.zip (aa (al 0) (aa (al 1) ac)))
    (λ_ _ _ _=>(pU (K:=K) (n:=2) rfl rfl (aM (ax (i:=0) (by show(["first","second"]:List Str).Nodup;decide +kernel) rfl (Or.inl rfl)) (aM (ax (i:=1) (by show(["first","second"]:List Str).Nodup;decide +kernel) rfl (Or.inl rfl)) cz)))) (λ_ _ _ _=>bW) (λ_ _ _ _=>(au fC (al 0) (al 1))))))),?_⟩
  ext;obtain⟨Y,Z⟩:=dS L U;obtain⟨G,I⟩:=dS J C;refine⟨_,aO.of R,_,aO.of O,?_⟩;rw[ar,ar,L.1,J.1]
  by_cases h1:(r:Int)=(r':Int)
  ·rw[q06 (λh=>h h1)]
   refine⟨_,aO.of R,_,a_ (bc Y),_,rfl,by rw[av];exact am ⋯,_,aO.of O,_,a_ (bc G),_,rfl,by rw[av];exact am ⋯,?_⟩;rw[av,av,Z,I]
   by_cases h2:6<(c:Int)+(c':Int)
   ·rw[q07 h2]
    exact⟨am ⋯,u ⋯⟩
   ·rw[q06 h2]
    refine⟨_,aO.of R,_,aO.of O,?_⟩;have o:p.length=r:=L.1;have B:q.length=r:=by rw[J.1];omega
    have D:(put2 p q).length=r:=by unfold put2;rw[Mb,q0L,o,B,Nat.min_self]
    refine xq (xs:=aH p) (ys:=aH q) (n:=r) (by rw[ar,ar,o,B,Nat.min_self]) (λi g σ m=>aD H m/\g=aH ((put2 p q).take i)/\i<=r/\∃y z,σ=[y,z]) ⟨λ_ _ e=>e,rfl,Mz _,_,_,rfl⟩ ?_ ?_ ?_ ?_ ?_
    ·rintro i g σ m ⟨_,rfl,M,_⟩
     rw[ar,MN];exact bf ⋯
    ·rintro i g σ m ⟨_,_,h,_⟩
     exact h
    ·rintro i g σ m ⟨j,_⟩
     exact⟨aO.of (j _ _ R),aO.of (j _ _ O)⟩
    ·rintro i x y g σ m T S hy ⟨j,rfl,_,y1,z1,rfl⟩ hT
     have M:i<p.length:=by have:=(L'.mp S).1;rwa [ar]at this
     have k:i<q.length:=by omega
     rw[bc M]at S;rw[bc k]at hy;cases S;cases hy;have hrow:=L.2 _ (Mi M);have ydu:=J.2 _ (Mi k);ext;refine⟨_,aS.of ad,rfl,_,_,rfl,_,_,rfl,rfl,?_⟩;have e:(put2 p q)[i]?=some (p[i]++q[i]):=by
      unfold put2;simp[List.getElem?_zip_eq_some,M,k];exact⟨_,_,⟨rfl,rfl⟩,rfl⟩
     have et:tx p[i]++tx q[i]=tx (p[i]++q[i]):=by
      show(⟨_++_⟩:Str)=⟨_⟩;simp[tx]
     refine⟨_,rfl,_,rfl,by rw[av,av];exact am ⋯,j.trans (ae hT),?_,⋯⟩;rw[et,q0E,e];exact(eZ _ _).symm
    ·rintro g σ m ⟨j,rfl,_⟩ l hl
     refine a0 ⟨⋯,⋯⟩ l _ (j.free hl) ?_ (j.trans (ae hl));rw[ad,<- D,MM]
  ·rw[q07 h1]
   exact⟨am ⋯,u ⋯⟩
abbrev qK:Stmt:=gZ 17
inductive uq(K:W.Frag)(vs:List V)(H:Hp)(Q:VK)(_E:XK):Prop
 |mk (a:Addr) (p:bJ) (_:vs=[.ref a]) (_:aO K H a (aH p)) (_:ua p) (_:cN H (mirror p) Q)
theorem AV:ay ["picture"] ["picture"] (ak qK):=by walk_at "c"
theorem BC{f:Addr}(F:cu K "mirror" "mirror" qK f fd)(nb:NB mg):↑aT 1 f fd ["picture"] (uq K):=by
 have sc:=AV;walk_at "f"
 ·obtain⟨a,p,rfl,k,j,q⟩:=h
  refine⟨_,(ai (aF (cH ["row"] [] rfl (bI.of i⁻¹) i⁻¹ (cv (al 0))
    (λ_ _ _ _=>(ax (i:=0) (by show(["row"]:List Str).Nodup;decide +kernel) rfl (Or.inl rfl))) (λ_ _ _ _=>bW) (λ_ _ _ _=>(rq rfl rfl nb.reversed (aa (al 0) ac)))))),?_⟩
  ext;refine⟨⟨_,k⟩,nF (xs:=aH p) (λi b σ e=>e=H/\b=aH (mirror (p.take i))/\i<=p.length/\∃x,σ=[x]) ⟨rfl,rfl,Mz _,_,rfl⟩ ?_ ?_ ?_ ?_ ?_⟩
  ·rintro i b σ e ⟨_,rfl,_⟩
   refine bf ?_;rw[ar];unfold mirror;rw[Mb,MN];have:=j.1;omega
  ·rintro i b σ e ⟨_,_,h,_⟩
   rw[ar];exact h
  ·rintro i b σ e ⟨rfl,_⟩
   exact k
  ·rintro i x b σ e g ⟨rfl,rfl,hi,y,rfl⟩
   have c:i<p.length:=by have:=(L'.mp g).1;rwa [ar]at this
   rw[bc c]at g;cases g;have hr:=j.2 _ (Mi c);ext;refine⟨by rw[av];omega,nofun,?_,c⟩;rw[dY,iT,q0E,L_ c];unfold mirror;rw[Mn];exact(eZ _ _).symm
  ·rintro b σ e ⟨rfl,rfl,_⟩ l c
   rw[ar,MM];exact q l _ c ad (ae c)
abbrev dP:Stmt:=gZ 19
inductive tX(K:W.Frag)(vs:List V)(H:Hp)(Q:VK)(_E:XK):Prop
 |mk (a:Addr) (p:bJ) (i:Nat) (_:vs=[.ref a,.int (i:Int)]) (_:aO K H a (aH p)) (_:ua p) (_:(∀r∈p,i<r.length)) (_:∀H',aD H H'->Q (.str (tx (col p i))) H')
theorem B8:ay ["picture","i"] ["picture","i"] (ak dP):=by walk_at "c"
theorem B6{f:Addr}(F:cu K "column_from_below" "column_from_below" dP f fd)(nb:NB mg):↑aT 1 f fd ["picture","i"] (tX K):=by
 have sc:=B8;walk_at "f"
 ·obtain⟨a,p,i,rfl,B,o,C,q⟩:=h
  refine⟨_,(ai (aF (@DF _ _ _ _ _ _ _ _ (aa (cH ["row"] [1] rfl (bI.of i⁻¹) i⁻¹ (zD rfl nb.reversed (aa (al 0) ac))
    (λ_ _ _ _=>(ax (i:=0) (by show(["row","i"]:List Str).Nodup;decide +kernel) rfl (Or.inl rfl))) (λ_ _ _ _=>bW) (λ_ _ _ _=>(az i_ (al 0) (al 1) (λ_ _=>rfl)))) ac) rfl rfl))),?_⟩
  ext;have hd:∀n,((p.reverse.take n).map λr=>V.str ⟨#[r.getD i 0]⟩)=(((p.reverse.take n).map λr=>r.getD i 0).map λc=>(⟨#[c]⟩:Str)).map V.str:=λn=>by rw[Mp,Mp];rfl
  refine⟨rfl,_,B,xh (xs:=aH p) (λn b σ j=>j=H/\b=((p.reverse.take n).map λr=>V.str ⟨#[r.getD i 0]⟩)/\n<=p.length/\∃x,σ=[x,some (.int (i:Int))]) ⟨rfl,rfl,Mz _,_,rfl⟩ ?_ ?_ ?_ ?_ ?_⟩
  ·rintro n b σ j ⟨_,rfl,_⟩
   refine bf ?_;rw[Mb,MN];have:=o.1;rw[Ms];omega
  ·rintro n b σ j ⟨_,_,h,_⟩
   rw[ar];exact h
  ·rintro n b σ j ⟨rfl,_⟩
   exact B
  ·rintro n x b σ j u ⟨rfl,rfl,hn,y,rfl⟩
   have g:n<p.reverse.length:=by
    have:=(L'.mp u).1
    rwa [Ms,ar,<- Ms (as:=p)]at this
   have k:(aH p.reverse)[n]?=some x:=by unfold aH at u ⊢;rwa [List.map_reverse]
   rw[bc g]at k;cases k;have v:p.reverse[n]∈p:=List.mem_reverse.mp (Mi g);have hr:=o.2 _ v;have m:=C _ v;ext;have D:(tx p.reverse[n]).cps.toList[i]?=some (p.reverse[n].getD i 0):=by rw[dY,q0A,L_ m];rfl
   refine⟨by rw[av];exact am ⋯,_,a_ D,?_,by rw[Ms]at g;exact g⟩;rw[q0E,L_ g,Mn]
   rfl
  ·rintro b σ j ⟨rfl,rfl,_⟩ l g
   rw[ar,<- Ms (as:=p),MM]at *;refine⟨(col p i).map λc=>(⟨#[c]⟩:Str),.inl (aO.of ?_),?_,?_⟩
   ·rw[ad];unfold col;rw[Mp,Mp];rfl
   ·rw[Mp]
    have e:((λy:Str=>y.length)∘λc=>(⟨#[c]⟩:Str))=λ_=>1:=by funext c;rfl
    rw[e,List.map_const',List.sum_replicate_nat,Mb];have G:(Str.ofString "").length=0:=rfl;rw[G];have:=o.1;unfold col;rw[Mb,Ms];omega
   ·rw[iT];exact q _ (ae g)
abbrev oh:Stmt:=gZ 18
inductive jk(K:W.Frag)(vs:List V)(H:Hp)(Q:VK)(_E:XK):Prop
 |mk (a:Addr) (p:bJ) (r c:Nat) (_:vs=[.ref a]) (_:aO K H a (aH p)) (_:fJ p r c) (_:0<r) (_:r<=64) (_:c<=64) (_:cN H (gq p) Q)
theorem zF:ay ["picture"] ["picture"] (ak oh):=by walk_at "c"
theorem zM{f:Addr}(F:cu K "quarter" "quarter" oh f fd)(nb:NB mg)(ybh:↑dO 1 "column_from_below" ["picture","i"] (tX K)):↑aT 2 f fd ["picture"] (jk K):=by
 have sc:=zF;walk_at "f"
 ·obtain⟨a,p,r,c,rfl,G,j,g,u,v,q⟩:=h
  refine⟨_,(ai (aF (cH ["i"] [0] rfl (bI.of i⁻¹) i⁻¹ (c7 rfl nb.range (aa n⁻¹ ac))
    (λ_ _ _ _=>(ax (i:=0) (by show(["i","picture"]:List Str).Nodup;decide +kernel) rfl (Or.inl rfl))) (λ_ _ _ _=>bW) (λ_ _ _ _=>(aJ ybh b⁻¹ rfl aW (aa (al 1) (aa (al 0) ac))))))),?_⟩
  ext;have k:0<p.length:=by rw[j.1];exact g
  have B:(p[0]).length=c:=j.2 _ (Mi k);have J:(p.headD []).length=c:=bC j g;refine⟨_,G,_,a_ (bc k),_,rfl,by rw[av];exact am ⋯,by rw[av];omega,by rw[av];omega,?_⟩;rw[av,B,Mj];refine fH (lo:=0) (n:=c) (λi b σ m=>aD H m/\b=aH ((List.range i).map (col p))/\i<=c/\∃x,σ=[x,some (.ref a)]) ⟨aD.refl _,rfl,Mz _,_,rfl⟩ ?_ ?_ ?_ ?_
  ·rintro i b σ m ⟨_,rfl,_⟩
   refine bf ?_;rw[ar,Mb,q0H];omega
  ·rintro i b σ m ⟨_,_,h,_⟩
   exact h
  ·rintro i b σ m D ⟨e,rfl,_,y,rfl⟩
   ext;refine⟨a,p,i,by simp,e.seq G,ua.of j u v,λx I=>by rw[j.2 x I];exact D,λH2 o=>⟨e.trans o,?_,D⟩⟩;rw[q0K,Mn];exact(eZ _ _).symm
  ·rintro b σ m ⟨e,rfl,_⟩ l C
   refine q l _ (e.free C) ?_ (e.trans (ae C));rw[ad];unfold gq;rw[J]
abbrev qR:Stmt:=gZ 16
inductive om(K:W.Frag)(vs:List V)(H:Hp)(Q:VK)(_E:XK):Prop
 |mk (a:Addr) (p:bJ) (r c t:Nat) (_:vs=[.ref a,.int (t:Int)]) (_:aO K H a (aH p)) (_:fJ p r c) (_:0<r) (_:0<c) (_:r<=64) (_:c<=64) (_:t<8) (_:cN H (turned p t) Q)
theorem Cd:ay ["picture","t","result","step"] ["picture","t"] (ak qR):=by walk_at "c"
theorem BE{f:Addr}(F:cu K "turned" "turned" qR f fd)(nb:NB mg)(ya6:↑dO 1 "mirror" ["picture"] (uq K))(ybf:↑dO 2 "quarter" ["picture"] (jk K)):↑aT 3 f fd ["picture","t"] (om K):=by
 have sc:=Cd;walk_at "f"
 ·obtain⟨a,p,r,c,t,rfl,hS,hp,hr0,hc0,hr1,hc1,ht,q⟩:=h
  refine⟨_,(af (q01 2 sc.nd (c_ cR rfl nb.list g_ (aa (pv 0) ac)))
   (af (bp (aE Gw (pv 1) ah (aI _))
   (ai (q01 2 sc.nd (aJ ya6 b⁻¹ rfl aW (aa (pv 2) ac))))
   aK)
   (af (bD PassesOwn.never rfl (c7 rfl nb.range (aa (au bj (pv 1) ah) ac)) (q02 3 sc.nd)
   (ai (q01 2 sc.nd (aJ ybf b⁻¹ rfl aW (aa (pv 2) ac)))))
   (ai (aF (pv 2)))))),?_⟩
  ext
  -- the bG,from the list at l
  have loop:∀(l:Addr) (p':bJ) (H1:Hp),H l=none->H1 l=some (.lst (aH p'))->aD H H1->fJ p' r c->turned p t=bG (t%4) p' ->
    ∀(g:TG) (tb:TS) (D:iO),g=lS 3->tb=zE (oQ (jk K) [] E0 (lO (CI 2) sS)) (lS 2)->(∀σ' H' v,σ'[2]?=some (some v)->Q v H'->D.nx σ' H')->u5 (CK 0 ((t:Int)%4).toNat) g tb D [some (V.ref a),some (V.int t),some (V.ref l),none] H1:=by
   intro l p' H1 hl h1 sm hp' et g tb D hg htb hD;subst hg htb;have e4:((t:Int)%4).toNat=t%4:=by omega
   rw[e4];refine dw (λi σ H2=>∃(l2:Addr) (x:Option V),σ=[some (V.ref a),some (V.int t),some (V.ref l2),x]/\H l2=none/\H2 l2=some (.lst (aH (bG i p')))/\aD H H2) ⟨l,none,rfl,hl,h1,sm⟩ ?_ ?_
   ·rintro i σ H2 hi ⟨l2,x,rfl,h2,h3,sm2⟩
    ext;have hq:=dc i hp' hr0 hc0;have gp:∀r' c',fJ (bG i p') r' c'->0<r'->r'<=64->c'<=64->jk K [V.ref l2] H2 (λx_1 H1=>∃l2,x_1=V.ref l2/\H l2=none/\H1 l2=some (HO.lst (aH (bG (i+1) p')))/\aD H H1) E0:=λr' c' h4 h5 h6 h7=>
     ⟨l2,bG i p',r',c',rfl,aO.of h3,h4,h5,h6,h7,λl3 H3 h8 h9 sm3=>⟨l3,rfl,sm2.free h8,by rw[h9,<- mI 1 i p'];rfl,sm2.trans sm3⟩⟩
    by_cases hi2:i%2=0
    ·rw[q07 hi2,q07 hi2]at hq
     exact gp r c hq hr0 hr1 hc1
    ·rw[q06 hi2,q06 hi2]at hq
     exact gp c r hq hc0 hc1 hr1
   ·rintro σ H2 ⟨l2,x,rfl,h2,h3,sm2⟩
    exact hD _ _ _ rfl (q l2 H2 h2 (by rw[h3,et]) sm2)
  refine⟨_,.inl hS,λl hl=>?_⟩
  split
  ·rename_i h4
   refine⟨l,p,rfl,aO.of ad,ua.of hp hr1 hc1,λl2 H2 h2 h3 sm2=>⟨⋯,⋯,?_⟩⟩;refine loop l2 (mirror p) H2 ((ae hl).free h2) h3 ((ae hl).trans sm2) (h_ hp) (by unfold turned;rw[q07 ⋯]) _ _ _ rfl rfl ?_;intro σ' H' v e hq;exact⟨v,e,hq⟩
  ·rename_i h4
   refine⟨⋯,⋯,?_⟩;refine loop l p _ hl ad (ae hl) hp (by unfold turned;rw[q06 ⋯]) _ _ _ rfl rfl ?_;intro σ' H' v e hq;exact⟨v,e,hq⟩
abbrev eM:Stmt:=fz 28 1
inductive jn(C:Addr)(vs:List V)(H:Hp)(Q:VK)(_E:XK):Prop
 |mk (a dx l b:Addr) (n sg:M8) (c:Int) (_:vs=[.ref a,.ref b]) (_:H a=some (.ins C dx (GF n c l sg))) (_:cN H [sg] Q)
theorem uA:ay ["self","pictures"] ["self","pictures"] (ak eM):=by walk_at "c"
theorem uP{f:Addr}(F:cu K "made" "CellRule.made" eM f fd)(cl:mG K C)(na:aq K C "sign"):↑aT 1 f fd ["self","pictures"] (jn C):=by
 have sc:=uA;walk_at "f"
 ·obtain⟨a,j,l,b,n,sg,c,rfl,g,q⟩:=h
  refine⟨_,(ai (aF (bA (aa (bM (al 0) rfl) ac)))),?_⟩;ext;exact⟨C,j,_,g,cl,na,_,rfl,am nofun,λp e=>q p _ e ad (ae e)⟩
inductive dL(spf:Sp)(vs:List V)(H:Hp)(Q:VK)(E:XK):Prop
 |mk (a b a1 a2:Addr) (_:vs=[.ref a,.ref b]) (_:H b=some (.lst [.ref a1,.ref a2])) (_:spf [.ref a1,.ref a2] H Q E)
abbrev cZ:Stmt:=fz 29 1
theorem rV:ay ["self","pictures"] ["self","pictures"] (ak cZ):=by walk_at "c"
theorem rN{f zia:Addr}(F:cu K "made" "BesideRule.made" cZ f fd)(ybc:dO P w K mg base (bN P w) 1 "beside" ["one","other"] (iM K zia)):aT P w K mg base (bN P w) 2 f fd ["self","pictures"] (dL (iM K zia)):=by
 have sc:=rV;walk_at "x"
 ·obtain⟨a,b,g,e,rfl,_⟩:=h;rfl
 ·obtain⟨a,b,g,e,rfl,c,q⟩:=h
  refine⟨_,(ai (aF (aJ (E:=E) ybc b⁻¹ rfl (bh λ_ _ _ h=>h) (aa (az aQ (al 1) ah (λ_ _=>rfl)) (aa (az aQ (al 1) ah (λ_ _=>rfl)) ac))))),?_⟩;ext;exact⟨_,aO.of c,_,rfl,_,aO.of c,_,rfl,q⟩
abbrev dM:Stmt:=fz 30 1
theorem sr:ay ["self","pictures"] ["self","pictures"] (ak dM):=by walk_at "c"
theorem sv{f zia:Addr}(F:cu K "made" "AboveRule.made" dM f fd)(ya4:dO P w K mg base (bN P w) 1 "above" ["one","other"] (j_ K zia)):aT P w K mg base (bN P w) 2 f fd ["self","pictures"] (dL (j_ K zia)):=by
 have sc:=sr;walk_at "x"
 ·obtain⟨a,b,g,e,rfl,_⟩:=h;rfl
 ·obtain⟨a,b,g,e,rfl,c,q⟩:=h
  refine⟨_,(ai (aF (aJ (E:=E) ya4 b⁻¹ rfl (bh λ_ _ _ h=>h) (aa (az aQ (al 1) ah (λ_ _=>rfl)) (aa (az aQ (al 1) ah (λ_ _=>rfl)) ac))))),?_⟩;ext;exact⟨_,aO.of c,_,rfl,_,aO.of c,_,rfl,q⟩
inductive iZ(K:W.Frag)(C:Addr)(vs:List V)(H:Hp)(Q:VK)(E:XK):Prop
 |mk (a dx l b a1:Addr) (n o1:M8) (c t:Int) (_:vs=[.ref a,.ref b]) (_:H a=some (.ins C dx (Gx n c l o1 t))) (_:H b=some (.lst [.ref a1])) (_:om K [.ref a1,.int t] H Q E0)
abbrev eF:Stmt:=fz 31 1
theorem uv:ay ["self","pictures"] ["self","pictures"] (ak eF):=by walk_at "c"
theorem uJ{f:Addr}(F:cu K "made" "TurnRule.made" eF f fd)(cl:mG K C)(na:aq K C "turning")(zGe:↑dO 3 "turned" ["picture","t"] (om K)):↑aT 4 f fd ["self","pictures"] (iZ K C):=by
 have sc:=uv;walk_at "f"
 ·obtain⟨a,j,l,b,a1,n,o1,c,t,rfl,g,e,q⟩:=h
  refine⟨_,(ai (aF (aJ zGe b⁻¹ rfl aW (aa (az aQ (al 1) ah (λ_ _=>rfl)) (aa (bM (al 0) rfl) ac))))),?_⟩;ext;exact⟨_,aO.of e,_,rfl,C,j,_,g,cl,na,_,rfl,q⟩
structure fb(p:bJ)(r c:Nat):Prop where
 rc:fJ p r c
 r0:0<r
 r6:r<=6
 c0:0<c
 c6:c<=6
inductive BR:Nat->List bJ->Prop
 |cell:BR 0 []
 |beside {p q:bJ} {r c r' c':Nat}:fb p r c->fb q r' c'->BR 1 [p,q]
 |above {p q:bJ} {r c r' c':Nat}:fb p r c->fb q r' c'->BR 2 [p,q]
 |turn {p:bJ} {r c:Nat}:fb p r c->BR 3 [p]
def Dh(H:Hp)(l:Addr)(as:Nb)(ps:List bJ):Prop:=H l=some (.lst (as.map V.ref))/\as.length=ps.length/\∀i (h1:i<as.length) (h2:i<ps.length),H as[i]=some (.lst (aH ps[i]))
def eY(k:Nat)(v:RV)(ps:List bJ):Option bJ:=
 match k,ps with
 |0,_=>some [v.sg]
 |1,[p,q]=>if p.length=q.length/\(p.headD []).length+(q.headD []).length<=6 then some (put2 p q) else none
 |2,[p,q]=>if(p.headD []).length=(q.headD []).length/\p.length+q.length<=6 then some (p++q) else none
 |_,[p]=>some (turned p v.t.toNat)
 |_,_=>none
def qf(K:W.Frag)(R:RC)(CF:Addr):List (Addr×Sp):=[(R.cc,jn R.cc),(R.cb,dL (iM K CF)),(R.ca,dL (j_ K CF)),(R.ct,iZ K R.ct)]
theorem C7{R:RC}{CF:Addr}{k a b}{v:RV}{as:Nb}{ps:List bJ}{Q:VK}{E:XK}(r:jb R H k a v)(ok:Jz k v)(pa:Dh H b as ps)(ft:BR k ps)
  (q:∀p,eY k v ps=some p->cN H p Q) (x:eY k v ps=none->E (.ref CF) none H) :
  ∃o∈qf K R CF,∃dx fs,H a=some (.ins o.1 dx fs)/\fs.lookup ("made":Str)=none/\o.2 [.ref a,.ref b] H Q E:=by
 obtain⟨dx,l,h1,_⟩:=r;obtain⟨I,G,y⟩:=pa;cases ft with
 |cell=>exact⟨(R.cc,jn R.cc),by simp[qf],dx,_,h1,rfl,a,dx,l,b,v.n,v.sg,v.c,rfl,h1,q _ rfl⟩
 | @beside p q' r c r' c' hp hq=>
  obtain⟨e,g,rfl⟩:∃e g,as=[e,g]:=by match as,G with | [e,g],_=>exact⟨e,g,rfl⟩
  have D:=y 0 (by simp) (by simp);have J:=y 1 (by simp) (by simp);have w:=bC hp.rc hp.r0;have u:=bC hq.rc hq.r0;have m:=hp.rc.1;have j:=hq.rc.1;refine⟨(R.cb,dL (iM K CF)),by simp[qf],dx,_,h1,rfl,a,b,e,g,rfl,I,e,g,p,q',r,c,r',c',rfl,D,J,hp.rc,hq.rc,hp.r0,hp.r6,hp.c6,hq.r0,hq.r6,hq.c6,λC=>q _ ?_,λB=>x ?_⟩
  ·show(if _ then _ else _)=_
   rw[q07 (by rw[m,j,w,u];exact C)]
  ·show(if _ then _ else _)=_
   rw[q06 (by rw[m,j,w,u];exact B)]
 | @above p q' r c r' c' hp hq=>
  obtain⟨e,g,rfl⟩:∃e g,as=[e,g]:=by match as,G with | [e,g],_=>exact⟨e,g,rfl⟩
  have D:=y 0 (by simp) (by simp);have J:=y 1 (by simp) (by simp);have w:=bC hp.rc hp.r0;have u:=bC hq.rc hq.r0;have m:=hp.rc.1;have j:=hq.rc.1;refine⟨(R.ca,dL (j_ K CF)),by simp[qf],dx,_,h1,rfl,a,b,e,g,rfl,I,e,g,p,q',r,c,r',c',rfl,D,J,hp.rc,hq.rc,hp.r0,hp.r6,hp.c6,hq.r0,hq.r6,hq.c6,λC=>q _ ?_,λB=>x ?_⟩
  ·show(if _ then _ else _)=_
   rw[q07 (by rw[m,j,w,u];exact C)]
  ·show(if _ then _ else _)=_
   rw[q06 (by rw[m,j,w,u];exact B)]
 | @turn p r c hp=>
  obtain⟨e,rfl⟩:∃e,as=[e]:=by match as,G with | [e],_=>exact⟨e,rfl⟩
  have D:=y 0 (by simp) (by simp);have L:0<=v.t:=ok.2.1;have t7:v.t<=7:=ok.2.2;refine⟨(R.ct,iZ K R.ct),by simp[qf],dx,_,h1,rfl,a,dx,l,b,e,v.n,v.o1,v.c,v.t,rfl,h1,I,e,p,r,c,v.t.toNat,by rw[MY L],aO.of D,hp.rc,hp.r0,hp.c0,by have:=hp.r6;omega,by have:=hp.c6;omega,⋯,q _ rfl⟩
abbrev rO:Stmt:=gZ 58
inductive oJ(K:W.Frag)(vs:List V)(H:Hp)(Q:VK)(_E:XK):Prop
 |mk (a:Addr) (ns:List Int) (k:Nat) (_:vs=[.ref a,.int (k:Int)]) (_:aO K H a (ns.map V.int)) (_:k<=1000) (_:∀c:Int,Q (.int c) H)
theorem Cs:ay ["_law_script","_law_k","_law_cell_here","_law_mixed"] ["_law_script","_law_k"] (ak rO):=by walk_at "c"
theorem Bp{f:Addr}(F:cu K "_law_cell" "_law_cell" rO f fd)(nb:NB mg):↑aT 1 f fd ["_law_script","_law_k"] (oJ K):=by
 have sc:=Cs;walk_at "f"
 ·obtain⟨a,ns,k,rfl,hS,hk,q⟩:=h
  refine⟨_,(af (q01 2 sc.nd ah)
   (af (bp (aE ia (aC aV rfl nb.len aR (aa (pv 0) ac)) ah (aI _))
   (ai (q01 2 sc.nd (az wg (pv 0) (au bj (pv 1) (aC aV rfl nb.len aR (aa (pv 0) ac))) (λ_ _=>rfl))))
   aK)
   (af (q01 3 sc.nd (au bj (au fW (au bO (au bO (au bj (pv 2) ah) (au fW ah (pv 1))) ah) ah) ah))
   (ai (aF (au bO (au fW (au bu (pv 2) ah) ah) (au bj (au bO (au fW (pv 3) ah) (pv 1)) ah))))))),?_⟩
  ext;refine⟨_,hS,?_⟩;rw[Mb]
  split
  ·rename_i hlt
   have h0:0<=(k:Int)%(ns.length:Int):=MW _ ⋯;have h1:(k:Int)%(ns.length:Int)<ns.length:=MX _ ⋯;obtain⟨j,hj⟩:∃j:Nat,(k:Int)%(ns.length:Int)=(j:Int):=⟨_,(MY h0).symm⟩;have hj2:j<ns.length:=by omega
   refine⟨_,hS,by rw[Mb];omega,_,hS,V.int ns[j],?_,_,rfl,_,rfl,q _⟩;rw[Mb,hj];exact a_ (by rw[Md,L_ hj2];rfl)
  ·exact q _
theorem Bb:(Str.ofString "abcdefghijklmnopqrstuvwxyz").cps.toList=(List.range 26).map (97 + ·):=by decide +kernel
theorem jo(h:dQ r=true):1<=r.length/\r.length<=4:=by
 unfold dQ at h;simp only[q0M,q0X]at h;exact⟨h.1.1.1,h.1.1.2⟩
theorem D3{α:Type}[DecidableEq α]:∀(l σ:List α),(∀x∈l,x∉σ)->l.Nodup->l.foldl fj σ=σ++l
 | [],σ,_,_=>by simp
 |x::l,σ,h,nd=>by
  rw[q0Y]at nd;rw[List.foldl_cons,show fj σ x=σ++[x] by unfold fj;rw[q06 (h x q0B)]];rw[D3 l (σ++[x]) (λy hy hm=>?_) nd.2,MK];rfl
  rcases Mo.mp hm with hm | hm
  ·exact h y (Mr _ hy) hm
  ·rw[Mc.mp hm]at hy;exact nd.1 hy
theorem Dm:∀n,n<26->HX jY (97+n)=true:=by decide +kernel
structure GK(r:M8):Prop where
 sm:∀x∈r,97<=x/\x<123
 nd:r.Nodup
theorem GK.signs(h:GK r)(h1:1<=r.length)(h4:r.length<=4):dQ r=true:=by
 have b:ic r jY=true:=MS.mpr λx a=>by
  have:=h.sm x a;have e:=Dm (x-97) ⋯
  rwa [show 97+(x-97)=x by omega]at e
 have c:(met (cJ (tx r))).length=r.length:=by
  unfold met;rw[D3 _ _ (λ_ _=>List.not_mem_nil) ?_]
  ·unfold cJ;rw[dY];simp
  ·unfold cJ
   rw[dY,List.Nodup,List.pairwise_map];exact h.nd.imp λn e=>n (by have:=q0P (λs:Str=>s.cps[0]?) e;simpa using this)
 unfold dQ;rw[b,c];simp;omega
theorem uc{α β:Type}(f:α->β):∀(l:List α) (k:Nat),(l.map f).eraseIdx k=(l.eraseIdx k).map f
 | [],_=>rfl
 |_::_,0=>rfl
 |x::l,k+1=>q0P (f x :: ·) (uc f l k)
theorem qO(r s:M8):tx r++tx s=tx (r++s):=by
 show(⟨r.toArray++s.toArray⟩:Str)=⟨(r++s).toArray⟩;simp
theorem q_{α:Type}:∀(l:List α) (k:Nat) (x:α),l[k]?=some x->(x::l.eraseIdx k).Perm l
 | [],_,_,e=>nomatch e
 |y::l,0,x,e=>by cases e;exact List.Perm.refl _
 |y::l,k+1,x,e=>(List.Perm.swap y x _).trans ((q_ l k x e).cons y)
theorem GK.pop{r pl:M8}{k ch:Nat}(h:GK (r++pl))(e:pl[k]?=some ch):GK ((r++[ch])++pl.eraseIdx k):=by
 have a:(r++[ch]++pl.eraseIdx k).Perm (r++pl):=by
  rw[MK];exact(q_ pl k ch e).append_left r
 exact⟨λx b=>h.sm x (a.mem_iff.mp b),a.nodup_iff.mpr h.nd⟩
abbrev oH:Stmt:=gZ 61
inductive r8(vs:List V)(H:Hp)(Q:VK)(_E:XK):Prop
 |mk (c:Int) (_:vs=[.int c,.int 4]) (_:∀(r:M8) (H':Hp),dQ r=true->aD H H'->Q (.str (tx r)) H')
theorem yS:ay ["_law_cell_here","_law_most","_law_pool","_law_rest","_law_signs_here","_law_k"] ["_law_cell_here","_law_most"] (ak oH):=by walk_at "c"
theorem yW{f:Addr}(F:cu K "_law_signs" "_law_signs" oH f fd)(nb:NB mg):↑aT 1 f fd ["_law_cell_here","_law_most"] r8:=by
 have sc:=yS;walk_at "f"
 ·obtain⟨c,rfl,q⟩:=h
  refine⟨_,(af (q01 2 sc.nd (c_ (zq rfl) rfl nb.list g_ (bH ac)))
   (af (q01 3 sc.nd (au (bg.m1 bu) (al 0) ah))
   (af (q01 4 sc.nd mr)
   (af (bD PassesOwn.never rfl (c7 rfl nb.range (aa (au (bg.m0 bO) ah (au (bg.m1 bj) (au (bg.m1 bj) (al 0) ah) (al 1))) ac)) (q02 5 sc.nd)
   (af (q01 4 sc.nd (au fC (al 4) (ib PySem.F.plainAttrs_list PySem.F.slot_list_pop PySem.F.type_list_pop Et (al 2) (aa (au (bg.m1 bj) (al 3) (aC aV rfl nb.len aR (aa (al 2) ac))) ac))))
   (ai (q01 3 sc.nd (au (bg.m1 bu) (al 3) (au (bg.m0 bO) (aC aV rfl nb.len aR (aa (al 2) ac)) ah))))))
   (ai (aF (al 4))))))),?_⟩
  symm;refine⟨by decide +kernel,λe p=>h1 _ _ ?_⟩;clear h1;rw[Bb];have J:=ae (o:=.lst (((List.range 26).map (97 + ·)).map λc=>V.str ⟨#[c]⟩)) p;have G:aA H e (.lst (((List.range 26).map (97 + ·)).map λc=>V.str ⟨#[c]⟩)) e=some (.lst (((List.range 26).map (97 + ·)).map λc=>V.str ⟨#[c]⟩)):=ad;generalize aA H e (.lst (((List.range 26).map (97 + ·)).map λc=>V.str ⟨#[c]⟩))=H1 at J G ⊢;have O:GK ((List.range 26).map (97 + ·)):=⟨nofun,nofun⟩;have M:((List.range 26).map (97 + ·)).length=26:=rfl;generalize(List.range 26).map (97 + ·)=p0 at G O M;symm;refine h1 _ _ ?_;clear h1;generalize c/4=re;symm;refine h1 _ _ ?_;grind;obtain⟨m,S⟩:∃m:Nat,c%4%4=(m:Int):=⟨_,(MY (MW _ ⋯)).symm⟩;have m2:m<4:=by omega
  rw[S,show(1+(m:Int)).toNat=1+m by omega];refine⟨⋯,⋯,?_⟩;refine dw (lo:=0) (n:=1+m) (λi σ g=>i<=1+m/\aD H g/\∃(a r:M8) (b:Int) (x:Option V),g e=some (.lst (a.map λc=>V.str ⟨#[c]⟩))/\a.length+i=26/\r.length=i/\GK (r++a)/\σ=[some (V.int c),some (V.int 4),some (V.ref e),some (V.int b),some (V.str (tx r)),x]) ⟨⋯,J,p0,[],re,none,G,M,rfl,O,rfl⟩ ?_ ?_
  ·rintro i σ g hi ⟨hi2,sm,a,r,b,x,y,l,L,B,rfl⟩
   symm;have U:0<=b%(a.length:Int):=MW _ ⋯;have hl:b%(a.length:Int)<a.length:=MX _ ⋯;obtain⟨k,T⟩:∃k:Nat,b%(a.length:Int)=(k:Int):=⟨_,(MY U).symm⟩;have u:k<a.length:=by omega
   obtain⟨j,v⟩:∃j,a[k]?=some j:=⟨_,L_ u⟩;have C:seqIndex? (k:Int) a.length=some k:=by unfold seqIndex?;simp;omega
   have Y:(a.map λc=>V.str ⟨#[c]⟩).eraseIdx k=(a.eraseIdx k).map λc=>V.str ⟨#[c]⟩:=uc ..;refine⟨.inl ⟨rfl,_,aO.of y⟩,_,aO.of y,by rw[Mb];omega,_,y,by rw[Mb];omega,by rw[Mb];omega,k,by rw[Mb,T];exact C,_,by rw[Md,v];rfl,_,rfl,?_,h1 _ _ ?_⟩
   ·rw[av];exact am (by show _+1<=_;omega)
   clear h1;rw[Y,show tx r++(⟨#[j]⟩:Str)=tx (r++[j]) from qO r [j]];have I:aD H (aA g e (.lst ((a.eraseIdx k).map λc=>V.str ⟨#[c]⟩))):=eG sm p;have D:aA g e (.lst ((a.eraseIdx k).map λc=>V.str ⟨#[c]⟩)) e=some (.lst ((a.eraseIdx k).map λc=>V.str ⟨#[c]⟩)):=ad;generalize aA g e (.lst ((a.eraseIdx k).map λc=>V.str ⟨#[c]⟩))=H2 at I D ⊢;have el:(a.eraseIdx k).length=a.length-1:=List.length_eraseIdx_of_lt u;ext;exact⟨_,aO.of D,by rw[Mb];omega,by rw[Mb];omega,⋯,I,a.eraseIdx k,D,⋯,r++[j],by simp[L],B.pop v,rfl⟩
  ·rintro σ g ⟨_,sm,a,r,b,x,y,l,L,B,rfl⟩
   refine h1 _ _ ?_;ext;exact q r g (GK.signs ⟨λx R=>B.sm x (q0D _ R),(List.nodup_append.mp B.nd).1⟩ ⋯ ⋯) sm
theorem Eb{row:M8}{n:Nat}(h:n<=row.length):Txt.slice (tx row) none (some (n:Int))=tx (row.take n):=by
 rw[tI,HT.sIx_nat,MZ h];show tx ((row.drop 0).take (n-0))=_;rw[M4,Nat.sub_zero]
theorem yF{row:M8}{n:Nat}(h:n<=row.length):Txt.slice (tx row) (some (n:Int)) none=tx (row.drop n):=by
 rw[tI,HT.sIx_nat,MZ h];show tx ((row.drop n).take (row.length-n))=_;rw[q0F (by rw[MO];omega)]
theorem zU:∀n,n<26->(Str.ofString "ABCDEFGHIJKLMNOPQRSTUVWXYZ").cps.toList[n]?=some (65+n):=by decide +kernel
def DZ(c:Nat):Bool:=HX Ht c
theorem xW:∀n,n<26->DZ (65+n)=true:=by decide +kernel
theorem Gc(x:Int):∃n:Nat,n<26/\x%26=(n:Int):=⟨(x%26).toNat,⋯,⋯⟩
theorem Ad{r:M8}(h:∀x∈r,DZ x=true)(h1:1<=r.length)(h4:r.length<=4):cW r=true:=by
 have a:r.all (HX Ht)=true:=MS.mpr h;unfold cW ic;rw[a];simp;omega
theorem iN{c:Prop}[Decidable c]{A B:Prop}(hA:c->A)(hB:¬ c->B):if c then A else B:=by
 by_cases h:c
 ·rw[q07 h];exact hA h
 ·rw[q06 h];exact hB h
abbrev iA:Stmt:=gZ 62
inductive j8(vs:List V)(H:Hp)(Q:VK)(_E:XK):Prop
 |mk (c:Int) (_:vs=[.int c]) (_:∀(l:Addr) (p:bJ) (H':Hp),H l=none->H' l=some (.lst (aH p))->p.length=4->(∀r∈p,cW r=true)->aD H H'->Q (.ref l) H')
theorem ri:ay ["_law_rest","_law_letters","_law_names_here","_law_k","_law_name","_law_size","_law_j"] ["_law_rest"] (ak iA):=by walk_at "c"
theorem qP{f:Addr}(F:cu K "_law_any_names" "_law_any_names" iA f fd)(nb:NB mg):↑aT 1 f fd ["_law_rest"] j8:=by
 have sc:=ri;walk_at "f"
 ·obtain⟨c,rfl,q⟩:=h
  refine⟨_,(af (q01 1 sc.nd mr)
   (af (q01 2 sc.nd (bA ac))
   (af (bD PassesOwn.never rfl (c7 rfl nb.range (bx ac)) (q02 3 sc.nd)
   (af (q01 4 sc.nd mr)
   (af (q01 5 sc.nd (au (bg.m0 bO) ah (au (bg.m1 bj) (al 0) ah)))
   (af (q01 0 sc.nd (au (bg.m1 bu) (al 0) ah))
   (af (bD PassesOwn.never rfl (c7 rfl nb.range (aa (al 5) ac)) (q02 6 sc.nd)
   (af (q01 4 sc.nd (au fC (al 4) (az i_ (al 1) (au (bg.m1 bj) (al 0) ah) (λ_ _=>rfl))))
   (ai (q01 0 sc.nd (au (bg.m1 bu) (al 0) ah)))))
   (ai (br (q03 (al 2) (aa (al 4) ac)))))))))
   (ai (aF (al 2)))))),?_⟩
  symm;refine h1 _ _ ?_;grind;refine⟨am nofun,λe g=>h1 _ _ ?_⟩;clear h1;have O:=ae (o:=.lst []) g;have S:aA H e (.lst []) e=some (.lst []):=ad;generalize aA H e (.lst [])=H1 at O S ⊢;symm;refine⟨nofun,?_⟩;refine dw (n:=4) (λi σ k=>aD H k/\(∃p:bJ,k e=some (.lst (aH p))/\p.length=i/\∀r∈p,cW r=true)/\∃b x y u v,σ=[some (V.int b),some (V.str (Str.ofString "ABCDEFGHIJKLMNOPQRSTUVWXYZ")),some (V.ref e),x,y,u,v]) ⟨O,⟨[],S,rfl,λr hr=>nomatch hr⟩,_,_,_,_,_,rfl⟩ ?_ ?_
  ·rintro i σ k hi ⟨a,⟨p,D,C,I⟩,b,x,y,u,v,rfl⟩
   symm;refine h1 _ _ ?_;grind;refine h1 _ _ ?_;clear h1;obtain⟨m,Y⟩:∃m:Nat,b%4=(m:Int):=⟨_,(MY (MW _ ⋯)).symm⟩;have m2:m<4:=by omega
   rw[Y];symm;refine h1 _ _ ?_;clear h1;generalize b/4=re1;symm;rw[show(1+(m:Int)).toNat=1+m by omega];refine⟨⋯,⋯,?_⟩;refine dw (n:=1+m) (λj σ M=>M=k/\∃(b x:Int) (r:M8) (y:Option V),r.length=j/\(∀x∈r,DZ x=true)/\σ=[some (V.int b),some (V.str (Str.ofString "ABCDEFGHIJKLMNOPQRSTUVWXYZ")),some (V.ref e),some (V.int i),some (V.str (tx r)),some (V.int (1+(m:Int))),y]) ⟨rfl,re1,0,[],_,rfl,λx U=>(nomatch U),rfl⟩ ?_ ?_
   ·rintro j σ M hj ⟨rfl,l,_,r,T,R,G,rfl⟩
    ext;obtain⟨n,B,L⟩:=Gc l;refine⟨nofun,65+n,by rw[L];exact a_ (zU n B),?_,_,r++[65+n],by simp[R],λz J=>?_,rfl,qO r [65+n]⟩
    ·rw[av];exact am (by show _+1<=_;omega)
    ·rcases Mo.mp J with h | h
     ·exact G z h
     ·rw[Mc.mp h];exact xW n B
   ·rintro σ M ⟨rfl,l,_,r,T,R,G,rfl⟩
    refine h1 _ _ ?_;ext;refine⟨.inl ⟨rfl,_,aO.of D⟩,_,D,by rw[ar,C];exact bf ⋯,eG a g,p++[r],?_,by rw[Mx,C];rfl,λz J=>?_⟩
    ·rw[ad];unfold aH;rw[Mn];rfl
    ·rcases Mo.mp J with h | h
     ·exact I z h
     ·rw[Mc.mp h];exact Ad G ⋯ ⋯
  ·rintro σ k ⟨a,⟨p,D,C,I⟩,b,x,y,u,v,rfl⟩
   refine h1 _ _ ?_;ext;exact q e p k g D C I a
abbrev nP:Stmt:=gZ 63
inductive qS(vs:List V)(H:Hp)(Q:VK)(_E:XK):Prop
 |mk (c:Int) (_:vs=[.int c]) (_:∀(l:Addr) (p:bJ) (H':Hp),H l=none->H' l=some (.lst (aH p))->p.length=4->(∀r∈p,cW r=true)->aD H H'->Q (.ref l) H')
theorem zy:ay ["_law_cell_here","_law_letters","_law_size","_law_at","_law_step_here","_law_base","_law_names_here","_law_k","_law_letter"] ["_law_cell_here"] (ak nP):=by walk_at "c"
theorem xU{f:Addr}(F:cu K "_law_names" "_law_names" nP f fd)(nb:NB mg)(zwb:↑dO 1 "_law_any_names" ["_law_rest"] j8):↑aT 2 f fd ["_law_cell_here"] qS:=by
 have sc:=zy;walk_at "f"
 ·obtain⟨c,rfl,q⟩:=h
  refine⟨_,(af (bp (aE dn (au (bg.m1 bj) (al 0) ah) ah (aI _))
   (ai (aF (aJ zwb b⁻¹ rfl aW (aa (au (bg.m1 bu) (al 0) ah) ac))))
   aK)
   (af (aB (i:=0) sc.nd rfl (Or.inr rfl) (au (bg.m1 bu) (al 0) ah))
   (af (aB (i:=1) sc.nd rfl (Or.inr rfl) mr)
   (af (q01 2 sc.nd (au (bg.m0 bO) ah (au (bg.m1 bj) (al 0) ah)))
   (af (q01 3 sc.nd (au (bg.m1 bj) (au (bg.m1 bu) (al 0) ah) (al 2)))
   (af (q01 4 sc.nd (au (bg.m0 bO) ah (au (bg.m1 fW) ah (au (bg.m1 bj) (au (bg.m1 bu) (al 0) ah) ah))))
   (af (q01 5 sc.nd (@DF _ _ _ _ _ _ _ _ (aa (cH ["_law_k"] [1,0] rfl (bI.of i⁻¹) i⁻¹ (c7 rfl nb.range (aa (al 2) ac))
    (λ_ _ _ _=>(ax (i:=0) (by show(["_law_k","_law_letters","_law_cell_here"]:List Str).Nodup;decide +kernel) rfl (Or.inl rfl))) (λ_ _ _ _=>bW) (λ_ _ _ _=>(az i_ (al 1) (au (bg.m1 bj) (au (bg.m0 bO) (au (bg.m1 bu) (al 2) ah) (au (bg.m1 fW) ah (al 0))) ah) (λ_ _=>rfl)))) ac) rfl rfl))
   (af (q01 6 sc.nd (bA ac))
   (af (bD PassesOwn.never rfl (c7 rfl nb.range (bx ac)) (q02 7 sc.nd)
   (af (q01 8 sc.nd (az i_ (al 1) (au (bg.m1 bj) (au (bg.m0 bO) (au (bg.m1 bu) (al 0) ah) (au (bg.m1 fW) (al 4) (al 7))) ah) (λ_ _=>rfl)))
   (ai (br (q03 (al 6) (aa (au fC (au fC (cX Eg (al 5) fq (dN (al 3))) (al 8)) (cX Eg (al 5) (dN (au (bg.m0 bO) (al 3) ah)) fq)) ac))))))
   (ai (aF (al 6)))))))))))),?_⟩
  symm;refine iN (λ_=>⟨_,rfl,λl p e h1 h2 h3 h4 h5=>q l p e h1 h2 h3 h4 h5⟩) (λ_=>h1 _ _ ?_);grind;refine h1 _ _ ?_;clear h1;generalize c/2=c;obtain⟨m,hm⟩:∃m:Nat,c%4=(m:Int):=⟨_,(MY (MW _ ⋯)).symm⟩;have m2:m<4:=by omega
  symm;refine h1 _ _ ?_;grind;refine h1 _ _ ?_;clear h1;rw[hm];symm;refine⟨⋯,h1 _ _ ?_⟩;clear h1;obtain⟨a,S⟩:∃k:Nat,c/4%(1+(m:Int))=(k:Int):=⟨_,(MY (MW _ ⋯)).symm⟩;have hat2:a<1+m:=by have:=MX (c/4) (b:=1+(m:Int)) ⋯;omega
  rw[S];symm;refine h1 _ _ ?_;clear h1;generalize 1+2*(c/16%6)=st;symm;have en:(1+(m:Int)).toNat=1+m:=by omega
  rw[en];refine⟨rfl,⋯,⋯,?_⟩
  let fc:Nat->Nat:=λi=>65+((c/96+5*(i:Int))%26).toNat
  refine w6 (n:=1+m) (f:=λi=>some (V.str ⟨#[fc i]⟩)) (λσ=>∃x,σ=[x,some (.str "ABCDEFGHIJKLMNOPQRSTUVWXYZ"),some (.int c)]) ⟨_,rfl⟩ ⋯ ?_ ?_
  ·rintro i hi σ e N1 N0 ⟨y,rfl⟩ I k1 k0
   ext;obtain⟨n,h1,h2⟩:=Gc (c/96+5*(i:Int));refine⟨nofun,fc i,?_,k1 _ _ _ rfl I ⟨_,rfl⟩⟩;show gj _ _=some (65+((c/96+5*(i:Int))%26).toNat);rw[h2];exact a_ (zU n h1)
  ·intro e I l hl
   rw[mH];have T:(List.range (1+m)).map (λi=>V.str ⟨#[fc i]⟩)=(((List.range (1+m)).map fc).map λc=>(⟨#[c]⟩:Str)).map V.str:=by rw[Mp,Mp];rfl
   rw[T];have j:∀x∈(List.range (1+m)).map fc,DZ x=true:=λx M=>by
    obtain⟨i,_,rfl⟩:=MR.mp M;obtain⟨n,h1,h2⟩:=Gc (c/96+5*(i:Int));show DZ (65+((c/96+5*(i:Int))%26).toNat)=true;rw[h2];exact xW n h1
   have R:((List.range (1+m)).map fc).length=1+m:=by simp
   generalize(List.range (1+m)).map fc=cs at j R ⊢;refine⟨_,.inl (aO.of ad),?_,?_⟩
   ·rw[Mp]
    have e1:((λy:Str=>y.length)∘λc=>(⟨#[c]⟩:Str))=λ_=>1:=by funext c;rfl
    have T:(Str.ofString "").length=0:=rfl;rw[e1,List.map_const',List.sum_replicate_nat,Mb,T];omega
   rw[iT];refine h1 _ _ ?_;clear h1;have J:=I.trans (ae (o:=.lst ((cs.map λc=>(⟨#[c]⟩:Str)).map V.str)) hl);generalize aA e l (.lst ((cs.map λc=>(⟨#[c]⟩:Str)).map V.str))=H1 at J ⊢;symm;refine⟨am nofun,λu B=>h1 _ _ ?_⟩;clear h1;have C:=J.free B;have Y:=J.trans (ae (o:=.lst []) B);have Z:aA H1 u (.lst []) u=some (.lst []):=ad;generalize aA H1 u (.lst [])=H2 at Y Z ⊢;symm;refine⟨nofun,?_⟩;refine dw (n:=4) (λi σ e=>aD H e/\(∃p:bJ,e u=some (.lst (aH p))/\p.length=i/\∀r∈p,cW r=true)/\∃x y,σ=[some (V.int c),some (V.str (Str.ofString "ABCDEFGHIJKLMNOPQRSTUVWXYZ")),some (V.int (1+(m:Int))),some (V.int (a:Int)),some (V.int st),some (V.str (tx cs)),some (V.ref u),x,y]) ⟨Y,⟨[],Z,rfl,λr hr=>nomatch hr⟩,_,_,rfl⟩ ?_ ?_
   ·rintro i σ e hi ⟨g,⟨p,G,D,L⟩,x,y,rfl⟩
    ext;obtain⟨n,v,O⟩:=Gc (c/2496+st*(i:Int));have nm:cW (cs.take a++[65+n]++cs.drop (a+1))=true:=by
     refine Ad (λx M=>?_) (by simp;omega) (by simp;omega);rcases Mo.mp M with h | h
     ·rcases Mo.mp h with h | h
      ·exact j x (q0G h)
      ·rw[Mc.mp h];exact xW n v
     ·exact j x (List.mem_of_mem_drop h)
    have U:((a:Int)+1)=((a+1:Nat):Int):=by push_cast;rfl
    rw[Eb ⋯,U,yF ⋯];have lt1:(cs.take a).length<=4:=by rw[MN];omega
    have lt2:(cs.drop (a+1)).length<=4:=by rw[MO];omega
    have ez:tx (cs.take a)++(⟨#[65+n]⟩:Str)++tx (cs.drop (a+1))=tx (cs.take a++[65+n]++cs.drop (a+1)):=by rw[show(⟨#[65+n]⟩:Str)=tx [65+n] from rfl,qO,qO]
    refine⟨.inr ⟨⋯,⋯⟩,nofun,65+n,by rw[O];exact a_ (zU n v),.inl ⟨rfl,_,aO.of G⟩,by rw[av];exact am ⋯,?_,by rw[av];exact am ⋯,?_,_,G,by rw[ar,D];exact bf ⋯,?_⟩
    ·rw[av];exact am (by show _+1<=_;omega)
    ·rw[show(⟨#[65+n]⟩:Str)=tx [65+n] from rfl,qO,av,av];exact am (by simp;omega)
    ·rw[ez]
     refine⟨eG g C,p++[cs.take a++[65+n]++cs.drop (a+1)],?_,by rw[Mx,D];rfl,λr hr=>?_⟩
     ·rw[ad];unfold aH;rw[Mn];rfl
     ·rcases Mo.mp hr with h | h
      ·exact L r h
      ·rw[Mc.mp h];exact nm
   ·rintro σ e ⟨g,⟨p,G,D,L⟩,x,y,rfl⟩
    refine h1 _ _ ?_;ext;exact q u p e C G D L g
def fX(r:Nat×RV):List V:=match r.1 with
 |0=>[.str (tx r.2.n),.int r.2.c,.int 0,.str (tx r.2.sg),.str ""]
 |1=>[.str (tx r.2.n),.int r.2.c,.int 1,.str (tx r.2.o1),.str (tx r.2.o2)]
 |2=>[.str (tx r.2.n),.int r.2.c,.int 2,.str (tx r.2.o1),.str (tx r.2.o2)]
 |_=>[.str (tx r.2.n),.int r.2.c,.int 3,.str (tx r.2.o1),.int r.2.t]
def fL(H:Hp)(l:Addr)(ts:Nb)(rs:Yaa):Prop:=H l=some (.lst (ts.map V.ref))/\ts.length=rs.length/\∀(i:Nat) t r,ts[i]?=some t->rs[i]?=some r->H t=some (.tup (fX r))
theorem fL.up(h:fL H l ts rs)(s:aD H H'):fL H' l ts rs:=⟨s _ _ h.1,h.2.1,λi t r e1 e2=>s _ _ (h.2.2 i t r e1 e2)⟩
theorem kE{k:Nat}(h:k<4):k=0\/k=1\/k=2\/k=3:=by omega
structure df(r:Nat×RV):Prop where
 k4:r.1<4
 good:r.2.good
 small:r.2.small
abbrev qI:Stmt:=gZ 64
inductive nV(R:RC)(vs:List V)(H:Hp)(Q:VK)(_E:XK):Prop
 |mk (t:Addr) (r:Nat×RV) (_:vs=[.ref t]) (_:H t=some (.tup (fX r))) (_:df r) (_:∀b H',jb R H' r.1 b r.2->aD H H'->Q (.ref b) H')
theorem BS:ay ["_law_rule_here"] ["_law_rule_here"] (ak qI):=by walk_at "c"
theorem AM{f CF:Addr}(F:cu K "_law_rule" "_law_rule" qI f fd)(nb:NB mg)(rk:pi K R)
  (zUb:lu P w K mg base (bN P w) 4 "CellRule" R.cc ["self","name","cost","sign"] (i5 K CF)) (zxb:lu P w K mg base (bN P w) 4 "BesideRule" R.cb ["self","name","cost","one","other"] (dD K CF))
  (zDb:lu P w K mg base (bN P w) 4 "AboveRule" R.ca ["self","name","cost","one","other"] (dD K CF)) (zVb:lu P w K mg base (bN P w) 4 "TurnRule" R.ct ["self","name","cost","part","turning"] (iY K CF)):↑aT 6 f fd ["_law_rule_here"] (nV R):=by
 have sc:=BS;walk_at "f"
 ·obtain⟨t,⟨k,v⟩,rfl,I,⟨J,g,B⟩,good⟩:=h
  refine⟨_,(af (bp (aE dn g⁻¹ ah (aI _))
   (ai (aF (gw (CX:=bN P w) zUb b⁻¹ rfl bq (aa g⁻¹ (aa g⁻¹ (aa g⁻¹ ac))))))
   aK)
   (af (bp (aE dn g⁻¹ ah (aI _))
   (ai (aF (gw (CX:=bN P w) zxb b⁻¹ rfl bq (aa g⁻¹ (aa g⁻¹ (aa g⁻¹ (aa g⁻¹ ac)))))))
   aK)
   (af (bp (aE dn g⁻¹ ah (aI _))
   (ai (aF (gw (CX:=bN P w) zDb b⁻¹ rfl bq (aa g⁻¹ (aa g⁻¹ (aa g⁻¹ (aa g⁻¹ ac)))))))
   aK)
   (ai (aF (gw (CX:=bN P w) zVb b⁻¹ rfl bq (aa g⁻¹ (aa g⁻¹ (aa g⁻¹ (aa g⁻¹ ac)))))))))),?_⟩
  have a:=aS.of (K:=K) I;have g:v.good:=g;have B:v.small:=g.small;have C:v.n.length<=100000:=by have:=B.n;omega
  have D:v.o1.length<=100000:=by have:=B.o1;omega
  have G:v.o2.length<=100000:=by have:=B.o2;omega
  have bs:v.sg.length<=100000:=by have:=B.sg;omega
  ext;rcases kE J with rfl | rfl | rfl | rfl
  ·change aS K H t [.str (tx v.n),.int v.c,.int 0,.str (tx v.sg),.str ""]at a
   refine⟨_,a,_,rfl,rfl,?_⟩;rw[q07 rfl];refine⟨_,a,_,rfl,_,a,_,rfl,_,a,_,rfl,λx j o r q=>?_⟩;exact⟨x,R.cc,j,v.n,v.sg,v.c,rfl,ad,rk.i0.cl,rk.a0,C,bs,λok m y l p e u=>⟨rfl,good x y ⟨j,m,u,e⟩ (kQ o r l)⟩,λb=>q0O (g.ok 0) b⟩
  ·change aS K H t [.str (tx v.n),.int v.c,.int 1,.str (tx v.o1),.str (tx v.o2)]at a
   refine⟨_,a,_,rfl,rfl,?_⟩;rw[q06 nofun];refine⟨_,a,_,rfl,rfl,?_⟩;rw[q07 rfl];refine⟨_,a,_,rfl,_,a,_,rfl,_,a,_,rfl,_,a,_,rfl,λx j o r q=>?_⟩;exact⟨x,R.cb,j,v.n,v.o1,v.o2,v.c,rfl,ad,rk.i1.cl,rk.a1,C,D,G,λok m y l p e u=>⟨rfl,good x y ⟨j,m,u,e⟩ (kQ o r l)⟩,λb=>q0O (g.ok 1) b⟩
  ·change aS K H t [.str (tx v.n),.int v.c,.int 2,.str (tx v.o1),.str (tx v.o2)]at a
   refine⟨_,a,_,rfl,rfl,?_⟩;rw[q06 nofun];refine⟨_,a,_,rfl,rfl,?_⟩;rw[q06 nofun];refine⟨_,a,_,rfl,rfl,?_⟩;rw[q07 rfl];refine⟨_,a,_,rfl,_,a,_,rfl,_,a,_,rfl,_,a,_,rfl,λx j o r q=>?_⟩;exact⟨x,R.ca,j,v.n,v.o1,v.o2,v.c,rfl,ad,rk.i2.cl,rk.a2,C,D,G,λok m y l p e u=>⟨rfl,good x y ⟨j,m,u,e⟩ (kQ o r l)⟩,λb=>q0O (g.ok 2) b⟩
  ·change aS K H t [.str (tx v.n),.int v.c,.int 3,.str (tx v.o1),.int v.t]at a
   refine⟨_,a,_,rfl,rfl,?_⟩;rw[q06 nofun];refine⟨_,a,_,rfl,rfl,?_⟩;rw[q06 nofun];refine⟨_,a,_,rfl,rfl,?_⟩;rw[q06 nofun];refine⟨_,a,_,rfl,_,a,_,rfl,_,a,_,rfl,_,a,_,rfl,λx j o r q=>?_⟩;exact⟨x,R.ct,j,v.n,v.o1,v.c,v.t,rfl,ad,rk.i3.cl,rk.a3,C,D,λok m y l p e u=>⟨rfl,good x y ⟨j,m,u,e⟩ (kQ o r l)⟩,λb=>q0O (g.ok 3) b⟩
structure jw(p:bJ)(sg:M8)(r:Nat×RV):Prop where
 good:df r
 n:r.2.n∈p
 o1:r.2.o1∈p
 o2:r.2.o2∈p
 sg:∃c∈sg,r.2.sg=[c]
theorem fL.app{t:Addr}(h:fL H l ts rs)(ht:H t=some (.tup (fX r))):fL (aA H l (.lst (ts.map V.ref++[V.ref t]))) l (ts++[t]) (rs++[r]):=by
 obtain⟨h1,h2,n⟩:=h;refine⟨by rw[ad,Mn];rfl,by rw[Mx,Mx,h2];rfl,λi c g b j=>?_⟩;have a:∀c g,H c=some (.tup (fX g))->aA H l (.lst (ts.map V.ref++[V.ref t])) c=some (.tup (fX g)):=λc g e=>by
  rw[ao (λz=>by rw[z,h1]at e;cases e)];exact e
 by_cases m:i<ts.length
 ·rw[Mw m]at b
  rw[Mw ⋯]at j;exact a _ _ (n i c g b j)
 ·rw[Mv ⋯]at b
  rw[Mv ⋯]at j;have k:i=ts.length:=by
   have:=(L'.mp b).1;simp at this;omega
  subst k;rw[Nat.sub_self]at b;rw[h2,Nat.sub_self]at j;cases b;cases j
  exact a _ _ ht
theorem xG(h:dQ r=true):ic r jY=true:=by
 unfold dQ at h;simp only[q0M,q0X]at h;exact h.1.2
theorem wc{c:Nat}(h:dQ r=true)(hc:c∈r):kb [c]=true:=by
 have:=xG h;unfold ic at this;rw[MS]at this;unfold kb ic;rw[List.all_cons,this c hc]
 rfl
def dq(ks:Ng)(z:Str):List Str:=if z∈ks then ks else ks++[z]
theorem um(m:List (Str×List Nat))(z:Str):(b6 m z).map (·.1)=dq (m.map (·.1)) z:=by
 unfold b6 dq
 split
 ·rfl
 ·rw[Mn];rfl
theorem qg:∀(zs:Ng) (m:List (Str×List Nat)),(zs.foldl b6 m).map (·.1)=zs.foldl dq (m.map (·.1))
 | [],_=>rfl
 |z::zs,m=>by rw[List.foldl_cons,List.foldl_cons,qg zs,um]
theorem BP(m:List (Str×List Nat))(i:Nat)(r:Nat×RV):(fP m i r).map (·.1)=(tx r.2.n::(bw r.1 r.2).map tx).foldl dq (m.map (·.1)):=by
 unfold fP;rw[qg,i8,um,List.foldl_cons]
theorem ze(ks:Ng)(z:Str):(dq ks z).length<=ks.length+1:=by
 unfold dq;split
 ·omega
 ·simp
def bQ(z:Str)(rs:Yaa):List Nat:=rs.zipIdx.filterMap λx=>if tx x.1.2.n=z then some x.2 else none
theorem rH(z:Str)(rs:Yaa)(r:Nat×RV):bQ z (rs++[r])=bQ z rs++if tx r.2.n=z then[rs.length] else[]:=by
 unfold bQ;rw[List.zipIdx_append,List.filterMap_append]
 congr 1
 simp
 split<;>rename_i h<;>simp[h]
theorem zK{z:Str}:∀{rs:Yaa},(∀r∈rs,tx r.2.n≠z)->bQ z rs=[]:=by
 intro rs h;unfold bQ;rw[List.filterMap_eq_nil_iff];intro x a;rw[q06 (h x.1 (List.fst_mem_of_mem_zipIdx a))]
structure NI(rs:Yaa)(m:List (Str×List Nat)):Prop where
 nd:(m.map (·.1)).Nodup
 ix:∀q∈m,q.2=bQ q.1 rs
 all:∀r∈rs,tx r.2.n∈m.map (·.1)
theorem qD{z y:Str}:y∈(b6 m z).map (·.1)↔y∈m.map (·.1)\/y=z:=by
 unfold b6
 split
 ·rename_i h
  exact⟨λq=>.inl q,λq=>q.elim id λe=>e▸h⟩
 ·rw[Mn,Mo];simp
theorem NI.name(h:NI rs m)(z:Str):NI rs (b6 m z):=by
 refine⟨m5 h.nd,λq hq=>?_,λr hr=>qD.mpr (.inl (h.all r hr))⟩;unfold b6 at hq
 split at hq
 ·exact h.ix q hq
 ·rename_i hz
  rcases Mo.mp hq with q1 | q1
  ·exact h.ix q q1
  ·rw[Mc.mp q1]
   exact(zK (z:=z) λr hr e=>hz (by rw[<- e];exact h.all r hr)).symm
theorem NI.names:∀(zs:Ng) {m:List (Str×List Nat)},NI rs m->NI rs (zs.foldl b6 m)
 | [],_,h=>h
 |z::zs,m,h=>NI.names zs (h.name z)
theorem NI.put{r:Nat×RV}(h:NI rs m)(hn:tx r.2.n∈m.map (·.1)):NI (rs++[r]) (jA m (tx r.2.n) rs.length):=by
 refine⟨by rw[i8];exact h.nd,λq b=>?_,λg a=>?_⟩
 ·unfold jA at b
  obtain⟨p,c,rfl⟩:=MR.mp b;rw[rH]
  by_cases e:p.1=tx r.2.n
  ·rw[q07 e]
   show p.2++[rs.length]=bQ p.1 rs++_;rw[q07 e.symm,h.ix p c]
  ·rw[q06 e,q06 (λz=>e z.symm),MJ]
   exact h.ix p c
 ·rw[i8]
  rcases Mo.mp a with q | q
  ·exact h.all g q
  ·rw[Mc.mp q];exact hn
theorem nO(z:Str):∀(n:Nat) (rs:Yaa),rs.length=n->NI rs (bo z rs)
 |0,rs,h=>by
  rw[MQ.mp h];exact⟨by simp[bo,gU],λq hq=>by rw[show q=(z,[]) by simpa[bo,gU]using hq];rfl,λr hr=>nomatch hr⟩
 |n+1,rs,h=>by
  obtain⟨rs',r,rfl⟩:∃rs' r,rs=rs'++[r]:=⟨rs.dropLast,rs.getLast (by intro e;rw[e]at h;cases h),(List.dropLast_concat_getLast _).symm⟩;have hl:rs'.length=n:=by rw[Mx,q0V]at h;omega
  have a:=nO z n rs' hl;unfold bo at a ⊢;rw[g9,Nat.zero_add];unfold fP;exact((a.name (tx r.2.n)).put (qD.mpr (.inr rfl))).names _
theorem tR:∀{m:List (Str×List Nat)} {q:Str×List Nat},(m.map (·.1)).Nodup->q∈m->m.lookup q.1=some q.2
 |p::m,q,hnd,hq=>by
  rw[MF,q0Y]at hnd;rw[List.lookup_cons];rcases Mq.mp hq with e | e
  ·rw[e];simp
  ·have hne:q.1≠p.1:=λz=>hnd.1 (z▸List.mem_map_of_mem e)
   have:(q.1==p.1)=false:=beq_eq_false_iff_ne.mpr hne;rw[this];exact tR hnd.2 e
theorem Aq{z:Str}{q:Str×List Nat}(h:q∈bo z rs):(bo z rs).lookup q.1=some (bQ q.1 rs)/\q.2=bQ q.1 rs:=by
 have N:=nO z _ rs rfl;have e:=N.ix q h;exact⟨by rw[tR N.nd h,e],e⟩
theorem ul(z:Str)(rs:Yaa):(bQ z rs).length<=rs.length:=by
 unfold bQ;exact MG (List.length_filterMap_le _ _) (by rw[List.length_zipIdx];exact My _)
theorem zw{Q:List V->Hp->Prop}(hR:fL H l ts rs)(hg:∀r∈rs,df r)(hn:rs.length<=100)(q:∀(as:Nb) H',aD H H'->cK R H' as rs->Q (as.map V.ref) H') :
  iK (Fc K l) (lS 0) Ai (oQ (nV R) [] E0 (lO (CI 0) sS)) [none] H Q:=by
 obtain⟨I,w,B⟩:=hR;refine nF (xs:=ts.map V.ref) (λi c σ H'=>aD H H'/\(∃as:List Addr,c=as.map V.ref/\cK R H' as (rs.take i))/\i<=ts.length/\∃x,σ=[x]) ⟨aD.refl _,⟨[],rfl,rfl,λi a r e=>by simp at e⟩,Mz _,_,rfl⟩ ?_ ?_ ?_ ?_ ?_
 ·rintro i c σ H' ⟨_,⟨as,rfl,h,_⟩,J,_⟩
  rw[Mb,h,MN];exact bf ⋯
 ·rintro i c σ H' ⟨_,_,h,_⟩
  rw[Mb];exact h
 ·rintro i c σ H' ⟨m,_⟩
  exact aO.of (m _ _ I)
 ·rintro i x c σ H' v ⟨m,⟨as,rfl,g⟩,J,y,rfl⟩
  have k:i<ts.length:=by have:=(L'.mp v).1;rwa [Mb]at this
  rw[Md,L_ k]at v;cases v;have p:i<rs.length:=by omega
  have o:rs[i]?=some rs[i]:=L_ p;have G:=m _ _ (B i ts[i] rs[i] (L_ k) o);ext;refine⟨ts[i],rs[i],rfl,G,hg _ (Mi p),λb H2 L C=>⟨m.trans C,⟨as++[b],by rw[Mn];rfl,?_⟩,k⟩⟩;have hal:as.length=i:=by have:=g.1;rw[MN]at this;omega
  rw[q0E,o];refine⟨by rw[Mx,Mx,g.1];rfl,λj a r n u=>?_⟩
  by_cases D:j<as.length
  ·rw[Mw D]at n
   rw[Mw (by rw[<- g.1];exact D)]at u;exact(g.2 j a r n u).up C
  ·rw[Mv ⋯]at n
   rw[Mv (by rw[<- g.1];omega)]at u;have:j-as.length=0:=by
    have:=(L'.mp n).1;simp at this;omega
   rw[this]at n;rw[<- g.1,this]at u;cases n;cases u
   exact L
 ·rintro c σ H' ⟨m,⟨as,rfl,g⟩,_⟩
  rw[Mb,w,MM]at g;exact q as H' m g
def G3(rs:Yaa):List ThM.NR:=rs.map λr=>(tx r.2.n,(bw r.1 r.2).map tx)
theorem zm{ks:Ng}{z y:Str}:y∈dq ks z↔y∈ks\/y=z:=ThM.mem_addNew
theorem nA{y:Str}:∀(zs ks:Ng),y∈zs.foldl dq ks↔y∈ks\/y∈zs
 | [],ks=>by simp
 |z::zs,ks=>by
  rw[List.foldl_cons,nA zs,zm,Mq];exact⟨λh=>h.elim (λh=>h.elim .inl λe=>.inr (.inl e)) λh=>.inr (.inr h),λh=>h.elim (λh=>.inl (.inl h)) λh=>h.elim (λe=>.inl (.inr e)) .inr⟩
theorem mS:∀(zs ks:Ng),(zs.foldl dq ks).length<=ks.length+zs.length
 | [],ks=>My _
 |z::zs,ks=>by
  have h1:=mS zs (dq ks z);have h2:=ze ks z;rw[List.foldl_cons,Mm];omega
theorem B_(z:Str)(rs:Yaa)(r:Nat×RV):(bo z (rs++[r])).map (·.1)=(tx r.2.n::(bw r.1 r.2).map tx).foldl dq ((bo z rs).map (·.1)):=by
 unfold bo;rw[g9,BP]
theorem Fa{α:Type}{P:List α->Prop}(h0:P [])(h1:∀rs r,P rs->P (rs++[r]))(rs:List α):P rs:=by
 have:∀(n:Nat) (rs:List α),rs.length=n->P rs:=by
  intro n
  induction n with
  |zero=>intro rs h;rw[MQ.mp h];exact h0
  |succ n ih=>
   intro rs h;have a:rs≠[]:=by intro e;rw[e]at h;cases h
   rw[<- List.dropLast_concat_getLast a];exact h1 _ _ (ih _ (by rw[List.length_dropLast];omega))
 exact this _ rs rfl
theorem qt(z:Str)(rs:Yaa):∀y,y∈(bo z rs).map (·.1)↔y=z\/∃r∈G3 rs,y=r.1\/y∈r.2:=by
 refine Fa (P:=λrs=>∀y,y∈(bo z rs).map (·.1)↔y=z\/∃r∈G3 rs,y=r.1\/y∈r.2) ?_ ?_ rs
 ·intro y
  have e:(bo z []).map (·.1)=[z]:=rfl;rw[e];unfold G3;simp
 ·intro rs r a y
  rw[B_,nA,a y,Mq];unfold G3;rw[Mn]
  constructor
  ·rintro((h | ⟨q,hq,h⟩) | h)
   ·exact .inl h
   ·exact .inr ⟨q,Mo.mpr (.inl hq),h⟩
   ·exact .inr ⟨_,Mo.mpr (.inr (Mc.mpr rfl)),h⟩
  ·rintro(h | ⟨q,hq,h⟩)
   ·exact .inl (.inl h)
   ·rcases Mo.mp hq with hq | hq
    ·exact .inl (.inr ⟨q,hq,h⟩)
    ·rw[Mc.mp hq]at h
     exact .inr h
theorem FQ{sg:M8}{c:Nat}(h:c∈sg):IU (tx sg) (tx [c])=true:=by
 have:=StrLaws.found_one (tx sg) c;show(!(Builtin.Str.occurrences (tx sg) ⟨#[c]⟩ 0 (tx sg).length 1).isEmpty)=true;rw[this,dY,q09 h]
theorem mK{sg:M8}:∀{rs:Yaa} {j:Nat},(∀r∈rs,∃c∈sg,r.2.sg=[c])->hU (tx sg) rs j=none
 | [],_,_=>rfl
 |r::rs,j,h=>by
  obtain⟨c,hc,e⟩:=h r q0B;unfold hU;rw[q06 (λz=>by rw[e,FQ hc]at z;exact q0O z.2 nofun)];exact mK λr' hr'=>h r' (Mr _ hr')
theorem Cu{p:bJ}{st:M8}{rs:Yaa}(hsg:dQ sg=true)(hst:st∈p)(hpn:∀r∈p,cW r=true)(hp:p.length<=8)(hn:rs.length<=24)(hr:∀r∈rs,jw p sg r):ij sg st rs=none:=by
 have l:iV sg st rs=none:=by
  unfold iV;rw[q06 (by rw[hsg];decide),q06 (by rw[hpn _ hst];decide),q06 ⋯,mK λr h=>(hr r h).sg]
 unfold ij;rw[l];simp only[];rw[q06];have j:∀z∈(bo (tx st) rs).map (·.1),z∈p.map tx:=λz g=>by
  rcases(qt _ _ _).mp g with e | ⟨q,c,e⟩
  ·rw[e];exact List.mem_map_of_mem hst
  ·unfold G3 at c
   obtain⟨r,b,rfl⟩:=MR.mp c;have R:=hr r b;rcases e with e | e
   ·rw[e];exact List.mem_map_of_mem R.n
   ·obtain⟨y,a,rfl⟩:=MR.mp e
    refine List.mem_map_of_mem ?_;obtain⟨k,v⟩:=r;rcases kE R.good.k4 with rfl | rfl | rfl | rfl
    ·exact q0O a List.not_mem_nil
    ·rcases(show y=v.o1\/y=v.o2 by simpa[bw]using a) with rfl | rfl
     ·exact R.o1
     ·exact R.o2
    ·rcases(show y=v.o1\/y=v.o2 by simpa[bw]using a) with rfl | rfl
     ·exact R.o1
     ·exact R.o2
    ·rw[show y=v.o1 by simpa[bw]using a];exact R.o1
 have:=ThM.nd_len (nO (tx st) _ rs rfl).nd j;rw[Mb,Mb]at this;omega
structure JI(K:W.Frag)(C:Addr):Prop where
 cl:fQ K C
 na:aq K C "signs"/\aq K C "start"/\aq K C "kept"/\aq K C "numbers"
abbrev TR:=List Nat×Nat×Nat×Int
def fw(r c:Nat):Int:=2*(r:Int)*(c:Int)-1
theorem iD(r c:Nat):fw r c=2*((r*c:Nat):Int)-1:=by unfold fw;push_cast;rw[Int.mul_assoc]
theorem cq{r c:Nat}(hr:1<=r)(hc:1<=c):1<=fw r c:=by
 rw[iD];have:1<=r*c:=Nat.mul_pos hr hc;omega
def jR(lo hi:Int):List Int:=(List.range (hi-lo).toNat).map fun(j:Nat)=>lo+(j:Int)
theorem oB{lo hi x:Int}:x∈jR lo hi↔lo<=x/\x<hi:=by
 unfold jR;rw[MR]
 constructor
 ·rintro⟨j,a,rfl⟩
  rw[List.mem_range]at a;omega
 ·rintro⟨h1,h2⟩
  exact⟨(x-lo).toNat,by rw[List.mem_range];omega,⋯⟩
def bt(o1 o2:M8)(szs:List ((Nat×Nat)×(Nat×Nat)))(left:Int):List (List TR):=
 szs.flatMap λz=>(jR (fw z.1.1 z.1.2) (left-fw z.2.1 z.2.2+1)).map λf=>[(o1,z.1.1,z.1.2,f),(o2,z.2.1,z.2.2,left-f)]
def fB(r c:Nat):List ((Nat×Nat)×(Nat×Nat)):=(List.range (c-1)).map λi=>((r,1+i),(r,c-(1+i)))
def fE(r c:Nat):List ((Nat×Nat)×(Nat×Nat)):=(List.range (r-1)).map λi=>((1+i,c),(r-(1+i),c))
def cE(q:Nat×RV)(r c:Nat)(k:Int):List (List TR):=match q.1 with
 |0=>if r=1/\c=1/\k=q.2.c then[[]] else[]
 |1=>bt q.2.o1 q.2.o2 (fB r c) (k-q.2.c)
 |2=>bt q.2.o1 q.2.o2 (fE r c) (k-q.2.c)
 |_=>[[(q.2.o1,if q.2.t%2=1 then c else r,if q.2.t%2=1 then r else c,k-q.2.c)]]
def aZ(f:TR->Nat)(ps:List TR):Nat:=ps.foldl (λm p=>m*f p) 1
def ju(z:M8)(rs:Yaa):Yaa:=rs.filter λq=>decide (q.2.n=z)
def cnt(rs:Yaa):Nat->TR->Nat
 |0,_=>0
 |f+1,p=>if p.2.1=0\/p.2.2.1=0\/6<p.2.1\/6<p.2.2.1\/p.2.2.2<fw p.2.1 p.2.2.1 then 0 else
  ((ju p.1 rs).map λq=>((cE q p.2.1 p.2.2.1 p.2.2.2).map λps=>aZ (cnt rs f) ps).sum).sum
structure Hn(q:Nat×RV)(r c:Nat)(k:Int)(p:TR):Prop where
 lt:p.2.2.2<k
 ge:1<=p.2.2.2\/k-q.2.c<=p.2.2.2
 r1:1<=p.2.1
 c1:1<=p.2.2.1
 rm:p.2.1<=max r c
 cm:p.2.2.1<=max r c
 nm:(p.1=q.2.o1)\/(p.1=q.2.o2/\(q.1=1\/q.1=2))
theorem nk{szs:List ((Nat×Nat)×(Nat×Nat))}{left:Int}{ps:List TR}(h:ps∈bt o1 o2 szs left) :
  ∃z∈szs,∃f,fw z.1.1 z.1.2<=f/\f<=left-fw z.2.1 z.2.2/\ps=[(o1,z.1.1,z.1.2,f),(o2,z.2.1,z.2.2,left-f)]:=by
 unfold bt at h;obtain⟨z,a,h⟩:=List.mem_flatMap.mp h;obtain⟨f,b,e⟩:=MR.mp h;have:=oB.mp b;exact⟨z,a,f,this.1,⋯,e.symm⟩
theorem zk{z:(Nat×Nat)×(Nat×Nat)}(h:z∈fB r c):z.1.1=r/\z.2.1=r/\1<=z.1.2/\1<=z.2.2/\z.1.2+z.2.2=c:=by
 obtain⟨i,a,rfl⟩:=MR.mp h;rw[List.mem_range]at a;refine⟨rfl,rfl,?_,?_,?_⟩<;>show _<;>simp<;>omega
theorem ym{z:(Nat×Nat)×(Nat×Nat)}(h:z∈fE r c):z.1.2=c/\z.2.2=c/\1<=z.1.1/\1<=z.2.1/\z.1.1+z.2.1=r:=by
 obtain⟨i,a,rfl⟩:=MR.mp h;rw[List.mem_range]at a;refine⟨rfl,rfl,?_,?_,?_⟩<;>show _<;>simp<;>omega
structure B0(r c:Nat)(z:(Nat×Nat)×(Nat×Nat)):Prop where
 a:1<=z.1.1
 b:1<=z.1.2
 d:1<=z.2.1
 e:1<=z.2.2
 ma:z.1.1<=max r c
 mb:z.1.2<=max r c
 md:z.2.1<=max r c
 me:z.2.2<=max r c
 fe:fw z.1.1 z.1.2+fw z.2.1 z.2.2+1=fw r c
theorem kJ{r:Nat}(hr:1<=r){z:(Nat×Nat)×(Nat×Nat)}(h:z∈fB r c):B0 r c z:=by
 obtain⟨h1,h2,k,j,g⟩:=zk h;obtain⟨⟨a,b⟩,d,e⟩:=z;simp only at h1 h2 k j g;subst h1 h2 g;refine⟨hr,k,hr,j,by simp;omega,by simp;omega,by simp;omega,by simp;omega,?_⟩;simp only[iD,Nat.mul_add];omega
theorem kF{c:Nat}(hc:1<=c){z:(Nat×Nat)×(Nat×Nat)}(h:z∈fE r c):B0 r c z:=by
 obtain⟨h1,h2,k,j,g⟩:=ym h;obtain⟨⟨a,b⟩,d,e⟩:=z;simp only at h1 h2 k j g;subst h1 h2 g;refine⟨k,hc,j,hc,by simp;omega,by simp;omega,by simp;omega,by simp;omega,?_⟩;simp only[iD,Nat.add_mul];omega
theorem dl{q:Nat×RV}{r c:Nat}{ps:List TR}(h4:q.1<4)(hr:1<=r)(hc:1<=c)(h:ps∈cE q r c k) :
  ps=[]\/(∃p,ps=[p]/\p.1=q.2.o1/\p.2.2.2=k-q.2.c/\((p.2.1=r/\p.2.2.1=c)\/(p.2.1=c/\p.2.2.1=r))) \/
  ((q.1=1\/q.1=2)/\∃z f,B0 r c z/\fw z.1.1 z.1.2<=f/\f<=k-q.2.c-fw z.2.1 z.2.2/\ps=[(q.2.o1,z.1.1,z.1.2,f),(q.2.o2,z.2.1,z.2.2,k-q.2.c-f)]):=by
 obtain⟨t,v⟩:=q;have:t=0\/t=1\/t=2\/t=3:=by simp at h4;omega
 rcases this with rfl | rfl | rfl | rfl
 ·left
  change ps∈(if r=1/\c=1/\k=v.c then[[]] else[]) at h
  split at h
  ·simpa using h
  ·simp at h
 ·right;right
  obtain⟨z,a,f,h1,h2,b⟩:=nk (show ps∈bt v.o1 v.o2 (fB r c) (k-v.c) from h);exact⟨.inl rfl,z,f,kJ hr a,h1,h2,b⟩
 ·right;right
  obtain⟨z,a,f,h1,h2,b⟩:=nk (show ps∈bt v.o1 v.o2 (fE r c) (k-v.c) from h);exact⟨.inr rfl,z,f,kF hc a,h1,h2,b⟩
 ·right;left
  change ps∈[[(v.o1,(if v.t%2=1 then c else r),(if v.t%2=1 then r else c),k-v.c)]]at h;refine⟨_,by simpa using h,rfl,rfl,?_⟩
  by_cases e:v.t%2=1
  ·right;simp[e]
  ·left;simp[e]
theorem nh{q:Nat×RV}{r c:Nat}{ps:List TR}{p:TR}(h4:q.1<4)(hq:1<=q.2.c)(hr:1<=r)(hc:1<=c)(h:ps∈cE q r c k)(hp:p∈ps):Hn q r c k p:=by
 rcases dl h4 hr hc h with rfl | ⟨p',rfl,l,e2,j⟩ | ⟨g,z,f,sz,h1,h2,rfl⟩
 ·cases hp
 ·rw[Mc.mp hp]
  refine⟨⋯,.inr ⋯,?_,?_,?_,?_,.inl l⟩<;>rcases j with⟨a,b⟩ | ⟨a,b⟩<;>simp only[a,b]<;>omega
 ·have f1:=cq sz.a sz.b
  have f2:=cq sz.d sz.e;rcases(show p=_\/p=_ by simpa using hp) with rfl | rfl
  ·exact⟨by show f<k;omega,.inl (by show 1<=f;omega),sz.a,sz.b,sz.ma,sz.mb,.inl rfl⟩
  ·exact⟨by show k-q.2.c-f<k;omega,.inl (by show 1<=k-q.2.c-f;omega),sz.d,sz.e,sz.md,sz.me,.inr ⟨rfl,g⟩⟩
theorem vP{f g:TR->Nat}:∀{ps:List TR},(∀p∈ps,f p=g p)->aZ f ps=aZ g ps:=by
 intro ps h;unfold aZ
 suffices this:∀m,ps.foldl (λm p=>m*f p) m=ps.foldl (λm p=>m*g p) m from this 1
 induction ps with
 |nil=>intro m;rfl
 |cons p ps ih=>
  intro m;rw[List.foldl_cons,List.foldl_cons,h p q0B];exact ih (λb a=>h b (Mr _ a)) _
def eC(rs:Yaa):Prop:=∀q∈rs,q.1<4/\1<=q.2.c/\q.2.c<=9
theorem jW{z:M8}{q:Nat×RV}(h:q∈ju z rs):q∈rs/\q.2.n=z:=by
 unfold ju at h;rw[List.mem_filter,q0X]at h;exact h
theorem Br(hg:eC rs){f g:Nat}{p:TR}(h:∀p':TR,p'.2.2.2<p.2.2.2->cnt rs f p'=cnt rs g p'):cnt rs (f+1) p=cnt rs (g+1) p:=by
 unfold cnt
 split
 ·rfl
 ·rename_i hn
  congr 1
  refine q0I λq hq=>?_
  congr 1
  refine q0I λps hps=>vP λp' hp'=>h p' ?_;obtain⟨h1,h2,_⟩:=hg q (jW hq).1;exact(nh h1 h2 ⋯ ⋯ hps hp').lt
theorem zW{f:Nat}{p:TR}(h:p.2.2.2<1):cnt rs f p=0:=by
 cases f with
 |zero=>rfl
 |succ f=>
  unfold cnt
  split
  ·rfl
  ·rename_i hn
   have:=cq (r:=p.2.1) (c:=p.2.2.1) ⋯ ⋯;omega
theorem wB(hg:eC rs):∀(f:Nat) (p:TR),p.2.2.2<(f:Int)+1->cnt rs (f+1) p=cnt rs f p
 |0,p,h=>by rw[zW (by simpa using h),zW (by simpa using h)]
 |f+1,p,h=>Br hg λp' hp'=>wB hg f p' (by push_cast at h;omega)
abbrev CN(rs:Yaa)(p:TR):Nat:=cnt rs 17 p
theorem FX(hg:eC rs){p:TR}(hk:p.2.2.2<=16):CN rs p=if p.2.1=0\/p.2.2.1=0\/6<p.2.1\/6<p.2.2.1\/p.2.2.2<fw p.2.1 p.2.2.1 then 0 else
  ((ju p.1 rs).map λq=>((cE q p.2.1 p.2.2.1 p.2.2.2).map λps=>aZ (CN rs) ps).sum).sum:=by
 have e:cnt rs 17 p=cnt rs 18 p:=(wB hg 17 p (by push_cast;omega)).symm;unfold CN;rw[e]
 rfl
theorem DK{p:TR}(h:p.2.2.2<fw p.2.1 p.2.2.1):CN rs p=0:=by
 unfold CN cnt;rw[q07 ⋯]
theorem oX{α β:Type}{g:β->Nat}{f:α->List β}:∀l:List α,((l.flatMap f).map g).sum=(l.map λx=>((f x).map g).sum).sum
 | []=>rfl
 |x::l=>by rw[List.flatMap_cons,Mn,List.sum_append,oX l,MF,List.sum_cons]
theorem m7{α:Type}(g:α->Nat)(b:Nat):∀(l:List α),(∀x∈l,g x<=b)->(l.map g).sum<=l.length*b
 | [],_=>by simp
 |x::l,h=>by
  have h1:=m7 g b l λy hy=>h y (Mr _ hy);have h2:=h x q0B;rw[MF,List.sum_cons,Mm,Nat.add_mul];omega
theorem jv(r c:Nat):(fB r c).length=c-1:=by unfold fB;rw[Mb,q0H]
theorem iX(r c:Nat):(fE r c).length=r-1:=by unfold fE;rw[Mb,q0H]
theorem gy{left:Int}(h15:left<=15):∀(szs:List ((Nat×Nat)×(Nat×Nat))),(∀z∈szs,B0 r c z)->(bt o1 o2 szs left).length<=szs.length*15
 | [],_=>My _
 |z::szs,h=>by
  have ih:=gy (o1:=o1) (o2:=o2) h15 szs λz' hz'=>h z' (Mr _ hz');have f1:=cq (h z q0B).a (h z q0B).b;have f2:=cq (h z q0B).d (h z q0B).e;unfold bt at ih ⊢;rw[List.flatMap_cons,Mx,Mm,Mb];unfold jR at ih ⊢;rw[Mb,q0H];omega
def dA(p:TR):List c8:=[.inr (tx p.1),.inl (p.2.1:Int),.inl (p.2.2.1:Int),.inl p.2.2.2]
def ck(p:TR):List V:=[.str (tx p.1),.int (p.2.1:Int),.int (p.2.2.1:Int),.int p.2.2.2]
theorem gM(h:tx a=tx b):a=b:=by
 have e:(tx a).cps.toList=(tx b).cps.toList:=by rw[h]
 rwa [dY,dY]at e
theorem w8(h:dA p=dA q):p=q:=by
 obtain⟨a,b,c,d⟩:=p;obtain⟨a',j,g,d'⟩:=q;unfold dA at h;simp only[List.cons.injEq,Sum.inr.injEq,Sum.inl.injEq,and_true]at h;obtain⟨h1,h2,h3,e⟩:=h;rw[gM h1,show b=j by omega,show c=g by omega,e]
def p_(H:Hp)(l:Addr)(ps:List TR):Prop:=∃bs:List Addr,H l=some (.lst (bs.map V.ref))/\bs.length=ps.length/\∀(i:Nat) b p,bs[i]?=some b->ps[i]?=some p->H b=some (.tup (ck p))
def fR(H0 H:Hp)(l:Addr)(pss:List (List TR)):Prop:=∃as:List Addr,H l=some (.lst (as.map V.ref))/\as.length=pss.length/\∀(i:Nat) a ps,as[i]?=some a->pss[i]?=some ps->(H0 a=none/\a≠l)/\p_ H a ps
theorem p_.up{ps:List TR}(h:p_ H l ps)(s:aD H H'):p_ H' l ps:=by
 obtain⟨bs,h1,h2,a⟩:=h;exact⟨bs,s _ _ h1,h2,λi b p e c=>s _ _ (a i b p e c)⟩
theorem fR.up{pss:List (List TR)}(h:fR H0 H l pss)(s:aD H H'):fR H0 H' l pss:=by
 obtain⟨g,h1,h2,b⟩:=h;exact⟨g,s _ _ h1,h2,λi a ps e c=>⟨(b i a ps e c).1,(b i a ps e c).2.up s⟩⟩
theorem p_.put{l:Addr}{ps:List TR}(h:p_ H a ps)(hne:a≠l)(hl:∃xs,H l=some (.lst xs)):p_ (aA H l o) a ps:=by
 obtain⟨bs,h1,h2,c⟩:=h;obtain⟨xs,hl⟩:=hl;exact⟨bs,by rw[ao hne];exact h1,h2,λi b p j g=>by
  have e:=c i b p j g;rw[ao (λz=>by rw[z,hl]at e;cases e)];exact e⟩
theorem fR.nil{H:Hp}(h:H l=some (.lst [])):fR H0 H l []:=⟨[],h,rfl,λi a ps e=>by simp at e⟩
theorem fR.app{pss:List (List TR)}{ps:List TR}(h:fR H0 H l pss)(hx:H l=some (.lst xs))(ha:p_ H a ps)(hf:H0 a=none)(hne:a≠l):fR H0 (aA H l (.lst (xs++[V.ref a]))) l (pss++[ps]):=by
 obtain⟨j,h1,h2,n⟩:=h;rw[hx]at h1;cases h1;refine⟨j++[a],by rw[ad,Mn];rfl,by rw[Mx,Mx,h2];rfl,λi b k c e=>?_⟩
 by_cases m:i<j.length
 ·rw[Mw m]at c
  rw[Mw ⋯]at e;have:=n i b k c e;exact⟨this.1,this.2.put this.1.2 ⟨_,hx⟩⟩
 ·have g:i=j.length:=by
   have:=(L'.mp c).1;simp at this;omega
  subst g;rw[Mv (My _),Nat.sub_self]at c;rw[h2,Mv (My _),Nat.sub_self]at e;cases c;cases e
  exact⟨⟨hf,hne⟩,ha.put hne ⟨_,hx⟩⟩
theorem fR.old{pss:List (List TR)}(h:fR H1 H l pss)(s:aD H0 H1):fR H0 H l pss:=by
 obtain⟨g,h1,h2,b⟩:=h;exact⟨g,h1,h2,λi a ps e c=>⟨⟨s.free (b i a ps e c).1.1,(b i a ps e c).1.2⟩,(b i a ps e c).2⟩⟩
def Fq(H:Hp)(as:Nb)(szs:List ((Nat×Nat)×(Nat×Nat))):Prop:=as.length=szs.length/\∀(i:Nat) a z,as[i]?=some a->szs[i]?=some z->∃x y,H a=some (.tup [.ref x,.ref y])/\H x=some (.tup [.int (z.1.1:Int),.int (z.1.2:Int)])/\H y=some (.tup [.int (z.2.1:Int),.int (z.2.2:Int)])
def Ky(H:Hp)(l:Addr)(szs:List ((Nat×Nat)×(Nat×Nat))):Prop:=∃as:List Addr,H l=some (.lst (as.map V.ref))/\Fq H as szs
theorem Fq.up{szs:List ((Nat×Nat)×(Nat×Nat))}(h:Fq H as szs)(s:aD H H'):Fq H' as szs:=⟨h.1,λi a z e1 e2=>by
 obtain⟨x,y,h1,h2,h3⟩:=h.2 i a z e1 e2;exact⟨x,y,s _ _ h1,s _ _ h2,s _ _ h3⟩⟩
theorem Fq.snoc{szs:List ((Nat×Nat)×(Nat×Nat))}{z:(Nat×Nat)×(Nat×Nat)}(h:Fq H as szs)(h1:H a=some (.tup [.ref x,.ref y]))(h2:H x=some (.tup [.int (z.1.1:Int),.int (z.1.2:Int)]))(h3:H y=some (.tup [.int (z.2.1:Int),.int (z.2.2:Int)])):Fq H (as++[a]) (szs++[z]):=by
 refine⟨by rw[Mx,Mx,h.1];rfl,λi b w c e=>?_⟩
 by_cases j:i<as.length
 ·rw[Mw j]at c
  rw[Mw (by rw[<- h.1];exact j)]at e;exact h.2 i b w c e
 ·have g:i=as.length:=by
   have:=(L'.mp c).1;simp at this;omega
  subst g;rw[Mv (My _),Nat.sub_self]at c;rw[h.1,Mv (My _),Nat.sub_self]at e;cases c;cases e
  exact⟨x,y,h1,h2,h3⟩
def bZ(d1 d2:Addr)(H H':Hp):Prop:=∀x o,x≠d1->x≠d2->H x=some o->H' x=some o
theorem bZ.of(s:aD H H'):bZ d1 d2 H H':=λx o _ _ e=>s x o e
theorem bZ.trans(a:bZ d1 d2 H H1)(b:bZ d1 d2 H1 H2):bZ d1 d2 H H2:=λx o h1 h2 e=>b x o h1 h2 (a x o h1 h2 e)
theorem bZ.put2:bZ d1 d2 H (aA H d2 o):=λx u _ h2 e=>by rw[ao h2];exact e
def Ii:HO->Prop | .dT _=>True | _=>False
def Kp(H H':Hp):Prop:=∀x o,¬ Ii o->H x=some o->H' x=some o
theorem Kp.of(s:aD H H'):Kp H H':=λx o _ e=>s x o e
theorem Kp.trans(a:Kp H H1)(b:Kp H1 H2):Kp H H2:=λx o h e=>b x o h (a x o h e)
theorem Kp.put{H:Hp}{d:Addr}(hd:H d=some (.dT m)):Kp H (aA H d o):=λx u h e=>by
 rw[ao (λz=>by rw[z,hd]at e;cases e;exact h trivial)];exact e
theorem Kp.lst{H H':Hp}(s:Kp H H'){a:Addr}{xs:List V}(h:H a=some (.lst xs)):H' a=some (.lst xs):=s _ _ id h
theorem Kp.tup{H H':Hp}(s:Kp H H'){a:Addr}{xs:List V}(h:H a=some (.tup xs)):H' a=some (.tup xs):=s _ _ id h
theorem Kp.ins{H H':Hp}(s:Kp H H'){a C dx:Addr}{fs:List (Str×V)}(h:H a=some (.ins C dx fs)):H' a=some (.ins C dx fs):=s _ _ id h
theorem Kp.dK{H H':Hp}(s:Kp H H'){a:Addr}{fs:List (c8×V)}(h:H a=some (.dK fs)):H' a=some (.dK fs):=s _ _ id h
theorem p_.kp{ps:List TR}(h:p_ H l ps)(s:Kp H H'):p_ H' l ps:=by
 obtain⟨bs,h1,h2,a⟩:=h;exact⟨bs,s.lst h1,h2,λi b p e c=>s.tup (a i b p e c)⟩
theorem cK.kp(h:cK R H as rs)(s:Kp H H'):cK R H' as rs:=by
 refine⟨h.1,λi b r c a=>?_⟩;obtain⟨d,l,h1,h2⟩:=h.2 i b r c a;exact⟨d,l,s.ins h1,s.lst h2⟩
theorem dU.kp{st:M8}(g:dU R H C dx a sg st as rs)(s:Kp H H'):dU R H' C dx a sg st as rs:=by
 obtain⟨e,c,t,h1,h2,l,b,k⟩:=g;exact⟨e,c,t,s.ins h1,s.lst h2,l.kp s,⟨s.dK b.dict,λx j=>s.lst (b.list x j),b.apart⟩,k⟩
abbrev rp:Stmt:=gZ 32
inductive iI(K:W.Frag)(vs:List V)(H:Hp)(Q:VK)(_E:XK):Prop
 |mk (a:Addr) (r c:Nat) (_:vs=[.ref a]) (_:aS K H a [.int (r:Int),.int (c:Int)]) (_:r<=100) (_:c<=100) (_:Q (.int (fw r c)) H)
theorem Ck:ay ["size"] ["size"] (ak rp):=by walk_at "c"
theorem Bw{f:Addr}(F:cu K "fewest" "fewest" rp f fd):↑aT 1 f fd ["size"] (iI K):=by
 have sc:=Ck;walk_at "f"
 ·obtain⟨a,r,c,rfl,b,hr3,hc3,q⟩:=h
  refine⟨_,(ai (aF (au (bg.m0 fu) (au (bg.m1 fW) (au (bg.m1 fW) ah g⁻¹) g⁻¹) ah))),?_⟩;ext;exact⟨_,b,_,rfl,_,rfl,_,b,_,rfl,_,rfl,.inl ⟨⋯,⋯⟩,q⟩
theorem kR{H:Hp}{Q:VK}(ha:H a=some (.tup xs))(hb:H b=some (.tup ys))(hx:xs≠[])(hy:ys≠[])(hz:xs.length+ys.length<=1000)(q:∀p,H p=none->Q (.ref p) (aA H p (.tup (xs++ys)))):DB K (.ref a) (.ref b) H Q:=
 ⟨a,b,xs,ys,rfl,rfl,aS.of ha,aS.of hb,hx,am ⋯,λe=>q0O e hy,λ_=>q⟩
abbrev im:Stmt:=gZ 33
inductive gX(K:W.Frag)(vs:List V)(H:Hp)(Q:VK)(_E:XK):Prop
 |mk (a C dx lp l:Addr) (n o1 o2:M8) (c left:Int) (szs:List ((Nat×Nat)×(Nat×Nat))) (rr cc:Nat) (_:vs=[.ref a,.ref l,.int left]) (_:H a=some (.ins C dx (Dd n c lp o1 o2))) (_:mG K C) (_:aq K C "one") (_:aq K C "other") (_:Ky H l szs) (_:szs.length<=10) (_:(∀z∈szs,B0 rr cc z)) (_:rr<=6) (_:cc<=6) (_:left<=15) (_:-100<=left) (_:∀l' H',H l'=none->fR H H' l' (bt o1 o2 szs left)->aD H H'->Q (.ref l') H')
theorem rX:ay ["rule","sizes","left","found","one","other","first"] ["rule","sizes","left"] (ak im):=by walk_at "c"
theorem fR.len{pss:List (List TR)}(h:fR H0 H l pss)(hx:H l=some (.lst xs)):xs.length=pss.length:=by
 obtain⟨as,h1,h2,_⟩:=h;rw[hx]at h1;cases h1;rw[Mb,h2]
theorem sH{left:Int}{szs:List ((Nat×Nat)×(Nat×Nat))}{i:Nat}{z:(Nat×Nat)×(Nat×Nat)}(h:szs[i]?=some z):bt o1 o2 (szs.take (i+1)) left=bt o1 o2 (szs.take i) left++(jR (fw z.1.1 z.1.2) (left-fw z.2.1 z.2.2+1)).map λf=>[(o1,z.1.1,z.1.2,f),(o2,z.2.1,z.2.2,left-f)]:=by
 unfold bt;rw[q0E,h,List.flatMap_append];simp
theorem qB{f:Addr}(F:cu K "paired_rows" "paired_rows" im f fd)(nb:NB mg)(yai:↑dO 1 "fewest" ["size"] (iI K)):↑aT 2 f fd ["rule","sizes","left"] (gX K):=by
 have sc:=rX;walk_at "f"
 ·obtain⟨a,C,dx,lp,l,n,o1,o2,c,left,u,rr,cc,rfl,ha,cl,n1,n2,⟨as,hl,c9,c6⟩,hsz,a8,rr6,cc6,a9,hlm,q⟩:=h
  refine⟨_,(af (q01 3 sc.nd (bA ac))
   (af (bD PassesOwn.never rfl (cv (al 1)) (fg (n:=2) rfl (aM (q02 4 sc.nd) (aM (q02 5 sc.nd) cz)))
   (ai (bD PassesOwn.never rfl (kG rfl nb.range (aa (aJ yai b⁻¹ rfl aW (aa (al 4) ac)) (aa (au (bg.m0 bO) (au (bg.m0 fu) (al 2) (aJ yai b⁻¹ rfl aW (aa (al 5) ac))) ah) ac))) (q02 6 sc.nd)
   (ai (br (q03 (al 3) (aa (bA (aa (au dZ (au dZ (aN (aa (bM (al 0) rfl) ac)) (al 4)) (aN (aa (al 6) ac))) (aa (au dZ (au dZ (aN (aa (bM (al 0) rfl) ac)) (al 5)) (aN (aa (au (bg.m0 fu) (al 2) (al 6)) ac))) ac))) ac)))))))
   (ai (aF (al 3))))),?_⟩
  symm;refine⟨am nofun,λI a0=>h1 _ _ ?_⟩;clear h1;have s1:=ae (o:=.lst []) a0;have e1:aA H I (.lst []) I=some (.lst []):=ad;generalize aA H I (.lst [])=H1 at s1 e1 ⊢;symm;refine⟨⟨_,aO.of (s1 _ _ hl)⟩,?_⟩;refine cM (xs:=as.map V.ref) (λi σ R=>aD H R/\i<=as.length/\fR H R I (bt o1 o2 (u.take i) left)/\∃x y z,σ=[some (V.ref a),some (V.ref l),some (V.int left),some (V.ref I),x,y,z]) ⟨s1,Mz _,fR.nil e1,_,_,_,rfl⟩ (λi σ R _ h=>aO.of (h.1 _ _ hl)) ?_ ?_
  ·rintro i x σ R hx ⟨sm,hi,hT,U,y1,z1,rfl⟩
   have Z:i<as.length:=by have:=(L'.mp hx).1;rwa [Mb]at this
   rw[Md,L_ Z]at hx;cases hx;have a3:u[i]?=some (u[i]'⋯):=L_ ⋯;have m:=a8 _ (Mi (show i<u.length by omega));have Y:=sH (o1:=o1) (o2:=o2) (left:=left) a3;obtain⟨a2,a1,ht,M,L⟩:=c6 i as[i] _ (L_ Z) a3;generalize u[i]'⋯=z at m Y M L;obtain⟨⟨g,k⟩,B,D⟩:=z;have ma:=m.ma;have mb:=m.mb;have md:=m.md;have me:=m.me;have f1:=cq m.a m.b;have f2:=cq m.d m.e;simp only at ma mb md me Y M L f1 f2;have g1:fw g k<=1000:=by
    rw[iD];have:g*k<=6*6:=Nat.mul_le_mul ⋯ ⋯;omega
   have g2:fw B D<=1000:=by
    rw[iD];have:B*D<=6*6:=Nat.mul_le_mul ⋯ ⋯;omega
   ext;refine⟨_,aS.of (sm _ _ ht),rfl,_,_,rfl,_,_,rfl,rfl,a2,g,k,rfl,aS.of (sm _ _ M),⋯,⋯,a1,B,D,rfl,aS.of (sm _ _ L),⋯,⋯,_,rfl,_,rfl,⋯,⋯,⋯,⋯,?_⟩;refine dw (λj σ R=>aD H R/\fR H R I (bt o1 o2 (u.take i) left++((List.range j).map fun(j:Nat)=>fw g k+(j:Int)).map λf=>[(o1,g,k,f),(o2,B,D,left-f)])/\∃z,σ=[some (V.ref a),some (V.ref l),some (V.int left),some (V.ref I),some (V.ref a2),some (V.ref a1),z]) ⟨sm,by simpa using hT,_,rfl⟩ ?_ ?_
   ·rintro j σ H2 hj ⟨v,G,z,rfl⟩
    ext;obtain⟨xs,J⟩:∃xs,H2 I=some (.lst xs):=let ⟨as2,h,_⟩:=G;⟨_,h⟩
    have b1:=G.len J;refine⟨.inl ⟨rfl,_,aO.of J⟩,C,dx,_,v _ _ ha,cl,n1,_,rfl,am nofun,λp1 c4=>?_⟩;have t1:=ae (o:=.tup [V.str (tx o1)]) c4;refine kR ad (t1 _ _ (v _ _ M)) (by simp) (by simp) (by simp) λp2 c3=>⟨am nofun,λp3 a7=>?_⟩;have t2:=t1.trans (ae (o:=.tup ([V.str (tx o1)]++[V.int (g:Int),V.int (k:Int)])) c3);have e2:aA (aA H2 p1 (.tup [V.str (tx o1)])) p2 (.tup ([V.str (tx o1)]++[V.int (g:Int),V.int (k:Int)])) p2=some (.tup [V.str (tx o1),V.int (g:Int),V.int (k:Int)]):=ad;generalize aA (aA H2 p1 (.tup [V.str (tx o1)])) p2 (.tup ([V.str (tx o1)]++[V.int (g:Int),V.int (k:Int)]))=A2 at t2 e2 a7 ⊢;have t3:=ae (o:=.tup [V.int (fw g k+(j:Int))]) a7;refine kR (t3 _ _ e2) ad (by simp) (by simp) (by simp) λT c0=>?_;have t4:=(t2.trans t3).trans (ae (o:=.tup ([V.str (tx o1),V.int (g:Int),V.int (k:Int)]++[V.int (fw g k+(j:Int))])) c0);have e4:aA (aA A2 p3 (.tup [V.int (fw g k+(j:Int))])) T (.tup ([V.str (tx o1),V.int (g:Int),V.int (k:Int)]++[V.int (fw g k+(j:Int))])) T=some (.tup (ck (o1,g,k,fw g k+(j:Int)))):=ad;generalize aA (aA A2 p3 (.tup [V.int (fw g k+(j:Int))])) T (.tup ([V.str (tx o1),V.int (g:Int),V.int (k:Int)]++[V.int (fw g k+(j:Int))]))=A4 at t4 e4 ⊢;have s4:=v.trans t4;refine⟨C,dx,_,s4 _ _ ha,cl,n2,_,rfl,am nofun,λp5 b4=>?_⟩;have t5:=ae (o:=.tup [V.str (tx o2)]) b4;refine kR ad (t5 _ _ (s4 _ _ L)) (by simp) (by simp) (by simp) λp6 b3=>⟨am nofun,λp7 a6=>?_⟩;have t6:=t5.trans (ae (o:=.tup ([V.str (tx o2)]++[V.int (B:Int),V.int (D:Int)])) b3);have e6:aA (aA A4 p5 (.tup [V.str (tx o2)])) p6 (.tup ([V.str (tx o2)]++[V.int (B:Int),V.int (D:Int)])) p6=some (.tup [V.str (tx o2),V.int (B:Int),V.int (D:Int)]):=ad;generalize aA (aA A4 p5 (.tup [V.str (tx o2)])) p6 (.tup ([V.str (tx o2)]++[V.int (B:Int),V.int (D:Int)]))=A6 at t6 e6 a6 ⊢;have t7:=ae (o:=.tup [V.int (left-(fw g k+(j:Int)))]) a6;refine kR (t7 _ _ e6) ad (by simp) (by simp) (by simp) λS b2=>?_;have t8:=(t6.trans t7).trans (ae (o:=.tup ([V.str (tx o2),V.int (B:Int),V.int (D:Int)]++[V.int (left-(fw g k+(j:Int)))])) b2);have e8:aA (aA A6 p7 (.tup [V.int (left-(fw g k+(j:Int)))])) S (.tup ([V.str (tx o2),V.int (B:Int),V.int (D:Int)]++[V.int (left-(fw g k+(j:Int)))])) S=some (.tup (ck (o2,B,D,left-(fw g k+(j:Int))))):=ad;generalize aA (aA A6 p7 (.tup [V.int (left-(fw g k+(j:Int)))])) S (.tup ([V.str (tx o2),V.int (B:Int),V.int (D:Int)]++[V.int (left-(fw g k+(j:Int)))]))=A8 at t8 e8 ⊢;refine⟨am nofun,λp9 O=>?_⟩;have t9:=ae (o:=.lst [V.ref T,V.ref S]) O;have e9:aA A8 p9 (.lst [V.ref T,V.ref S]) p9=some (.lst [V.ref T,V.ref S]):=ad;have n9:p9≠I:=λe=>by rw[e,t8 _ _ (t4 _ _ J)]at O;cases O
    generalize aA A8 p9 (.lst [V.ref T,V.ref S])=A9 at t9 e9 ⊢;have s9:=(t4.trans t8).trans t9;have a4:=s9 _ _ J;have a5:p_ A9 p9 [(o1,g,k,fw g k+(j:Int)),(o2,B,D,left-(fw g k+(j:Int)))]:=⟨[T,S],e9,rfl,λi b p U x2=>by
     match i,U,x2 with
     |0,U,x2=>cases U;cases x2;exact(t8.trans t9) _ _ e4
     |1,U,x2=>cases U;cases x2;exact t9 _ _ e8⟩
    have hlen:(bt o1 o2 (u.take i) left).length<=150:=MG (gy (r:=rr) (c:=cc) a9 _ λz hz=>a8 z (q0G hz)) (by rw[MN];omega);refine⟨_,a4,?_,?_⟩
    ·rw[b1,Mx,Mb,Mb,q0H];exact bf ⋯
    ·refine⟨eG (v.trans s9) a0,?_⟩
     rw[q0K,Mn,Mn,<- MK];exact(G.up s9).app a4 a5 (v.free (t4.free (t8.free O))) n9
   ·rintro σ H2 ⟨v,G,z,rfl⟩
    refine⟨v,Z,?_,_,_,_,rfl⟩;rw[Y];exact G
  ·rintro σ R ⟨sm,_,hT,U,y1,z1,rfl⟩
   refine h1 _ _ ?_;ext;rw[Mb,c9,MM]at hT;exact q I R a0 hT sm
inductive dW(C:Addr)(t:Nat)(vs:List V)(H:Hp)(Q:VK)(_E:XK):Prop
 |mk (a dx lp:Addr) (v:RV) (r c:Nat) (k:Int) (_:vs=[.ref a,.int (r:Int),.int (c:Int),.int k]) (_:H a=some (.ins C dx (w_ t lp v))) (_:1<=r) (_:r<=6) (_:1<=c) (_:c<=6) (_:k<=16) (_:1<=k) (_:1<=v.c) (_:v.c<=9) (_:0<=v.t) (_:∀l H',H l=none->fR H H' l (cE (t,v) r c k)->aD H H'->Q (.ref l) H')
abbrev eV:Stmt:=fz 28 5
theorem uE:ay ["self","rows","columns","cost"] ["self","rows","columns","cost"] (ak eV):=by walk_at "c"
theorem p_.nil{H:Hp}(h:H l=some (.lst [])):p_ H l []:=⟨[],h,rfl,λi a ps e=>by simp at e⟩
theorem fR.one{H0 H:Hp}{ps:List TR}(h:H l=some (.lst [.ref a]))(ha:p_ H a ps)(hf:H0 a=none)(hne:a≠l):fR H0 H l [ps]:=⟨[a],h,rfl,λi b qs e1 e2=>by
 match i,e1,e2 with
 |0,e1,e2=>cases e1;cases e2;exact⟨⟨hf,hne⟩,ha⟩⟩
theorem IA{a b c d e f:Int}:fA [V.int a,V.int b,V.int c] [V.int d,V.int e,V.int f]=decide (a=d/\b=e/\c=f):=by
 have j:fA [V.int a,V.int b,V.int c] [V.int d,V.int e,V.int f]=(((a==d)&&((b==e)&&((c==f)&&true)))&&true):=rfl;rw[j]
 by_cases h1:a=d<;>by_cases h2:b=e<;>by_cases g:c=f<;>simp[h1,h2,g]
theorem vL{f:Addr}(F:cu K "part_rows" "CellRule.part_rows" eV f fd)(nb:NB mg)(cl:mG K C)(na:aq K C "cost"):↑aT 1 f fd ["self","rows","columns","cost"] (dW C 0):=by
 have sc:=uE;walk_at "f"
 ·obtain⟨a,L,lp,v,r,c,k,rfl,J,r1,r6,c1,c6,k16,k1,vc,vc9,vt,q⟩:=h
  have I:=hr.units;refine⟨_,(ai (aF (rM (aE (u6 I) (aN (aa (al 1) (aa (al 2) (aa (al 3) ac)))) (aN (bx (bx (aa (bM (al 0) rfl) ac)))) (aI _)) (bA (aa (bA ac) ac)) (bA ac)))),?_⟩;ext;refine⟨am nofun,λp B=>⟨C,L,_,ae B _ _ J,cl,na,_,rfl,am nofun,λG l=>⟨_,aS.of (ae l _ _ ad),_,aS.of ad,rfl,rfl,?_⟩⟩⟩;have j:=(ae (o:=.tup [V.int (r:Int),V.int (c:Int),V.int k]) B).trans (ae (o:=.tup [V.int 1,V.int 1,V.int v.c]) l);generalize aA (aA H p (.tup [V.int (r:Int),V.int (c:Int),V.int k])) G (.tup [V.int 1,V.int 1,V.int v.c])=H2 at j ⊢;rw[IA];have n:cE (0,v) r c k=if r=1/\c=1/\k=v.c then[[]] else[]:=rfl
  rw[n]at q
  by_cases D:r=1/\c=1/\k=v.c
  ·rw[q07 (by simp;omega)]
   rw[q07 D]at q;refine⟨Mz _,λm b=>⟨am nofun,λy g=>?_⟩⟩;have x:=ae (o:=.lst []) b;have u:=ae (o:=.lst [V.ref m]) g;have ne:m≠y:=λe=>by rw[<- e,ad]at g;cases g
   exact q y _ (j.free (x.free g)) (fR.one ad (p_.nil (u _ _ ad)) (j.free b) ne) ((j.trans x).trans u)
  ·rw[q06 (by simp;omega)]
   rw[q06 D]at q;exact⟨Mz _,λm b=>q m _ (j.free b) (fR.nil ad) (j.trans (ae b))⟩
abbrev c5:Stmt:=fz 29 5
theorem rK:ay ["self","rows","columns","cost","sizes"] ["self","rows","columns","cost"] (ak c5):=by walk_at "c"
theorem AS{c i:Nat}(h:i<c-1):(fB r c)[i]?=some ((r,1+i),(r,c-(1+i))):=by
 unfold fB;rw[Md,List.getElem?_range h];rfl
theorem qz{f:Addr}(F:cu K "part_rows" "BesideRule.part_rows" c5 f fd)(nb:NB mg)(cl:mG K C)(na:aq K C "cost"/\aq K C "one"/\aq K C "other")(yaA:↑dO 2 "paired_rows" ["rule","sizes","left"] (gX K)):↑aT 3 f fd ["self","rows","columns","cost"] (dW C 1):=by
 have sc:=rK;walk_at "f"
 ·obtain⟨a,U,lp,v,r,c,k,rfl,S,r1,r6,c1,c6,k16,k1,vc,vc9,vt,q⟩:=h
  have hu:=hr.units;refine⟨_,(af (gF (i:=4) ["at"] [1,2] sc.nd rfl (Or.inl rfl) rfl  rfl (bI.of i⁻¹) i⁻¹ (kG rfl nb.range (bx (aa (al 2) ac)))
    (λ_ _ _ _=>(ax (i:=0) (by show(["at","rows","columns"]:List Str).Nodup;decide +kernel) rfl (Or.inl rfl))) (λ_ _ _ _=>bW) (λ_ _ _ _=>(aN (aa (aN (aa (al 1) (aa (al 0) ac))) (aa (aN (aa (al 1) (aa (au (bg.m0 fu) (al 2) (al 0)) ac))) ac)))))
   (ai (aF (aJ yaA b⁻¹ rfl aW (aa (al 0) (aa (al 4) (aa (au (bg.m0 fu) (al 3) (bM (al 0) rfl)) ac))))))),?_⟩
  symm;refine⟨⋯,⋯,⋯,?_⟩;have en:((c:Int)-1).toNat=c-1:=by omega
  rw[en];refine fH (λi j σ m=>aD H m/\i<=c-1/\(∃g:List Addr,j=g.map V.ref/\Fq m g ((fB r c).take i))/\∃z,σ=[z,some (V.int (r:Int)),some (V.int (c:Int))]) ⟨λ_ _ e=>e,Mz _,⟨[],rfl,rfl,λi a z e=>by simp at e⟩,_,rfl⟩ ?_ (λi j σ m h=>h.2.1) ?_ ?_
  ·rintro i j σ m ⟨_,L,⟨g,rfl,p⟩,_⟩
   rw[Mb,p.1,MN];exact bf ⋯
  ·rintro i j σ m L ⟨sm,_,⟨g,rfl,p⟩,z,rfl⟩
   ext;refine⟨am nofun,λR I=>⟨am nofun,λO G=>⟨am nofun,λp3 D=>?_⟩⟩⟩;have Z:=ae (o:=.tup [V.int (r:Int),V.int (1+(i:Int))]) I;have M:=ae (o:=.tup [V.int (r:Int),V.int ((c:Int)-(1+(i:Int)))]) G;have u:=ae (o:=.tup [V.ref R,V.ref O]) D;have t:=(Z.trans M).trans u;refine⟨sm.trans t,L,g++[p3],by rw[Mn];rfl,?_⟩;rw[q0E,AS L];exact(p.up t).snoc (x:=R) (y:=O) ad ((M.trans u) _ _ (by rw[ad];rw[show(1+(i:Int))=((1+i:Nat):Int) by push_cast;rfl])) (u _ _ (by rw[ad];rw[show((c:Int)-(1+(i:Int)))=((c-(1+i):Nat):Int) by omega]))
  rintro j σ Y ⟨s1,_,⟨g,rfl,p⟩,z,rfl⟩ l hl;refine h1 _ _ ?_;clear h1;have B:=ae (o:=.lst (g.map V.ref)) hl;have T:aA Y l (.lst (g.map V.ref)) l=some (.lst (g.map V.ref)):=ad;generalize aA Y l (.lst (g.map V.ref))=H2 at B T ⊢;have b:=s1.trans B;rw[q0F (by rw[jv];omega)]at p;ext;refine⟨C,U,_,b _ _ S,cl,na.1,_,rfl,_,rfl,a,C,U,lp,l,v.n,v.o1,v.o2,v.c,k-v.c,fB r c,r,c,rfl,b _ _ S,cl,na.2.1,na.2.2,⟨g,T,p.up B⟩,by rw[jv];omega,λz hz=>kJ r1 hz,r6,c6,⋯,⋯,λl' m J hT s3=>q l' m (b.free J) (hT.old b) (b.trans s3)⟩
abbrev dI:Stmt:=fz 30 5
theorem so:ay ["self","rows","columns","cost","sizes"] ["self","rows","columns","cost"] (ak dI):=by walk_at "c"
theorem AR{r i:Nat}(h:i<r-1):(fE r c)[i]?=some ((1+i,c),(r-(1+i),c)):=by
 unfold fE;rw[Md,List.getElem?_range h];rfl
theorem sG{f:Addr}(F:cu K "part_rows" "AboveRule.part_rows" dI f fd)(nb:NB mg)(cl:mG K C)(na:aq K C "cost"/\aq K C "one"/\aq K C "other")(yaA:↑dO 2 "paired_rows" ["rule","sizes","left"] (gX K)):↑aT 3 f fd ["self","rows","columns","cost"] (dW C 2):=by
 have sc:=so;walk_at "f"
 ·obtain⟨a,U,lp,v,r,c,k,rfl,S,r1,r6,c1,c6,k16,k1,vc,vc9,vt,q⟩:=h
  have hu:=hr.units;refine⟨_,(af (gF (i:=4) ["at"] [2,1] sc.nd rfl (Or.inl rfl) rfl  rfl (bI.of i⁻¹) i⁻¹ (kG rfl nb.range (bx (aa (al 1) ac)))
    (λ_ _ _ _=>(ax (i:=0) (by show(["at","columns","rows"]:List Str).Nodup;decide +kernel) rfl (Or.inl rfl))) (λ_ _ _ _=>bW) (λ_ _ _ _=>(aN (aa (aN (aa (al 0) (aa (al 1) ac))) (aa (aN (aa (au (bg.m0 fu) (al 2) (al 0)) (aa (al 1) ac))) ac)))))
   (ai (aF (aJ yaA b⁻¹ rfl aW (aa (al 0) (aa (al 4) (aa (au (bg.m0 fu) (al 3) (bM (al 0) rfl)) ac))))))),?_⟩
  symm;refine⟨⋯,⋯,⋯,?_⟩;have en:((r:Int)-1).toNat=r-1:=by omega
  rw[en];refine fH (λi j σ m=>aD H m/\i<=r-1/\(∃g:List Addr,j=g.map V.ref/\Fq m g ((fE r c).take i))/\∃z,σ=[z,some (V.int (c:Int)),some (V.int (r:Int))]) ⟨λ_ _ e=>e,Mz _,⟨[],rfl,rfl,λi a z e=>by simp at e⟩,_,rfl⟩ ?_ (λi j σ m h=>h.2.1) ?_ ?_
  ·rintro i j σ m ⟨_,L,⟨g,rfl,p⟩,_⟩
   rw[Mb,p.1,MN];exact bf ⋯
  ·rintro i j σ m L ⟨sm,_,⟨g,rfl,p⟩,z,rfl⟩
   ext;refine⟨am nofun,λR I=>⟨am nofun,λO G=>⟨am nofun,λp3 D=>?_⟩⟩⟩;have Z:=ae (o:=.tup [V.int (1+(i:Int)),V.int (c:Int)]) I;have M:=ae (o:=.tup [V.int ((r:Int)-(1+(i:Int))),V.int (c:Int)]) G;have u:=ae (o:=.tup [V.ref R,V.ref O]) D;have t:=(Z.trans M).trans u;refine⟨sm.trans t,L,g++[p3],by rw[Mn];rfl,?_⟩;rw[q0E,AR L];exact(p.up t).snoc (x:=R) (y:=O) ad ((M.trans u) _ _ (by rw[ad];rw[show(1+(i:Int))=((1+i:Nat):Int) by push_cast;rfl])) (u _ _ (by rw[ad];rw[show((r:Int)-(1+(i:Int)))=((r-(1+i):Nat):Int) by omega]))
  rintro j σ Y ⟨s1,_,⟨g,rfl,p⟩,z,rfl⟩ l hl;refine h1 _ _ ?_;clear h1;have B:=ae (o:=.lst (g.map V.ref)) hl;have T:aA Y l (.lst (g.map V.ref)) l=some (.lst (g.map V.ref)):=ad;generalize aA Y l (.lst (g.map V.ref))=H2 at B T ⊢;have b:=s1.trans B;rw[q0F (by rw[iX];omega)]at p;ext;refine⟨C,U,_,b _ _ S,cl,na.1,_,rfl,_,rfl,a,C,U,lp,l,v.n,v.o1,v.o2,v.c,k-v.c,fE r c,r,c,rfl,b _ _ S,cl,na.2.1,na.2.2,⟨g,T,p.up B⟩,by rw[iX];omega,λz hz=>kF c1 hz,r6,c6,⋯,⋯,λl' m J hT s3=>q l' m (b.free J) (hT.old b) (b.trans s3)⟩
abbrev eS:Stmt:=fz 31 5
theorem uK:ay ["self","rows","columns","cost","size"] ["self","rows","columns","cost"] (ak eS):=by walk_at "c"
theorem vg{f:Addr}(F:cu K "part_rows" "TurnRule.part_rows" eS f fd)(nb:NB mg)(cl:mG K C)(na:aq K C "cost"/\aq K C "part"/\aq K C "turning"):↑aT 1 f fd ["self","rows","columns","cost"] (dW C 3):=by
 have sc:=uK;walk_at "f"
 ·obtain⟨a,dx,lp,v,r,c,k,rfl,Z,r1,r6,c1,c6,k16,k1,vc,vc9,vt,q⟩:=h
  have hu:=hr.units;refine⟨_,(af (q01 4 sc.nd (rM (aE dn (au (bg.m1 bj) (bM (al 0) rfl) ah) ah (aI _)) (aN (aa (al 2) (aa (al 1) ac))) (aN (aa (al 1) (aa (al 2) ac)))))
   (ai (aF (bA (aa (bA (aa (au dZ (au dZ (aN (aa (bM (al 0) rfl) ac)) (al 4)) (aN (aa (au (bg.m0 fu) (al 3) (bM (al 0) rfl)) ac))) ac)) ac))))),?_⟩
  symm;have m:∀(x y:Nat) (p:Addr) (j:Hp),(∃p:TR,cE (3,v) r c k=[[p]]/\p=(v.o1,x,y,k-v.c))->aD H j->j p=some (.tup [V.int (x:Int),V.int (y:Int)])->N1 [some (V.ref a),some (V.int (r:Int)),some (V.int (c:Int)),some (V.int k),some (V.ref p)] j:=by
   rintro x y p j ⟨_,ep,rfl⟩ M e1;refine h1 _ _ ?_;ext;refine⟨C,dx,_,M _ _ Z,cl,na.2.1,_,rfl,am nofun,λp1 U=>?_⟩;have t1:=ae (o:=.tup [V.str (tx v.o1)]) U;refine kR ad (t1 _ _ e1) (by simp) (by simp) (by simp) λO T=>?_;have J:=t1.trans (ae (o:=.tup ([V.str (tx v.o1)]++[V.int (x:Int),V.int (y:Int)])) T);have e2:aA (aA j p1 (.tup [V.str (tx v.o1)])) O (.tup ([V.str (tx v.o1)]++[V.int (x:Int),V.int (y:Int)])) O=some (.tup [V.str (tx v.o1),V.int (x:Int),V.int (y:Int)]):=ad;generalize aA (aA j p1 (.tup [V.str (tx v.o1)])) O (.tup ([V.str (tx v.o1)]++[V.int (x:Int),V.int (y:Int)]))=A2 at J e2 ⊢;refine⟨C,dx,_,(M.trans J) _ _ Z,cl,na.1,_,rfl,_,rfl,am nofun,λp3 S=>?_⟩;have t3:=ae (o:=.tup [V.int (k-v.c)]) S;refine kR (t3 _ _ e2) ad (by simp) (by simp) (by simp) λl R=>?_;have t4:=(J.trans t3).trans (ae (o:=.tup ([V.str (tx v.o1),V.int (x:Int),V.int (y:Int)]++[V.int (k-v.c)])) R);have e4:aA (aA A2 p3 (.tup [V.int (k-v.c)])) l (.tup ([V.str (tx v.o1),V.int (x:Int),V.int (y:Int)]++[V.int (k-v.c)])) l=some (.tup (ck (v.o1,x,y,k-v.c))):=ad;generalize aA (aA A2 p3 (.tup [V.int (k-v.c)])) l (.tup ([V.str (tx v.o1),V.int (x:Int),V.int (y:Int)]++[V.int (k-v.c)]))=A4 at t4 e4 ⊢;refine⟨am nofun,λp5 n=>⟨am nofun,λp6 g=>?_⟩⟩;have I:=ae (o:=.lst [V.ref l]) n;have G:=ae (o:=.lst [V.ref p5]) g;have ne:p5≠p6:=λe=>by rw[<- e,ad]at g;cases g
   have L:=M.trans t4;rw[ep]at q;refine q p6 _ (L.free (I.free g)) (fR.one ad ⟨[l],G _ _ ad,rfl,λi b z D B=>?_⟩ (L.free n) ne) ((L.trans I).trans G)
   match i,D,B with
   |0,D,B=>cases D;cases B;exact(I.trans G) _ _ e4
  refine⟨C,dx,_,Z,cl,na.2.2,_,rfl,_,rfl,?_⟩
  by_cases u:v.t%2=1
  ·rw[q07 u]
   exact⟨am nofun,λp Y=>m c r p _ ⟨_,rfl,by simp[u]⟩ (ae Y) ad⟩
  ·rw[q06 u]
   exact⟨am nofun,λp Y=>m r c p _ ⟨_,rfl,by simp[u]⟩ (ae Y) ad⟩
def lT(R:RC):List (Addr×Sp):=[(R.cc,dW R.cc 0),(R.cb,dW R.cb 1),(R.ca,dW R.ca 2),(R.ct,dW R.ct 3)]
theorem D4{R:RC}{t a}{v:RV}{r c:Nat}{k:Int}{Q:VK}{E:XK}(h4:t<4)(ra:jb R H t a v)(r1:1<=r)(r6:r<=6)(c1:1<=c)(c6:c<=6)(k16:k<=16)(k1:1<=k)(vc:1<=v.c)(vc9:v.c<=9)(vt:0<=v.t)(q:∀l H',H l=none->fR H H' l (cE (t,v) r c k)->aD H H'->Q (.ref l) H') :
  ∃o∈lT R,∃dx fs,H a=some (.ins o.1 dx fs)/\fs.lookup ("part_rows":Str)=none/\o.2 [.ref a,.int (r:Int),.int (c:Int),.int k] H Q E:=by
 obtain⟨dx,l,h1,_⟩:=ra;have:t=0\/t=1\/t=2\/t=3:=by omega
 rcases this with rfl | rfl | rfl | rfl
 ·exact⟨(R.cc,dW R.cc 0),by simp[lT],dx,_,h1,rfl,a,dx,l,v,r,c,k,rfl,h1,r1,r6,c1,c6,k16,k1,vc,vc9,vt,q⟩
 ·exact⟨(R.cb,dW R.cb 1),by simp[lT],dx,_,h1,rfl,a,dx,l,v,r,c,k,rfl,h1,r1,r6,c1,c6,k16,k1,vc,vc9,vt,q⟩
 ·exact⟨(R.ca,dW R.ca 2),by simp[lT],dx,_,h1,rfl,a,dx,l,v,r,c,k,rfl,h1,r1,r6,c1,c6,k16,k1,vc,vc9,vt,q⟩
 ·exact⟨(R.ct,dW R.ct 3),by simp[lT],dx,_,h1,rfl,a,dx,l,v,r,c,k,rfl,h1,r1,r6,c1,c6,k16,k1,vc,vc9,vt,q⟩
inductive Gr(rs:Yaa):Dt->List Nat->bJ->Int->Nat->Prop
 |cell {n:Nat} {v:RV}:rs[n]?=some (0,v)->Gr rs (.tup [.int (n:Int)]) v.n [v.sg] v.c 1
 |turn {n:Nat} {v:RV} {d:Dt} {p:bJ} {c:Int} {k:Nat}:rs[n]?=some (3,v)->Gr rs d v.o1 p c k->Gr rs (.tup [.int (n:Int),d]) v.n (turned p v.t.toNat) (v.c+c) (k+1)
 |pair {n kd:Nat} {v:RV} {d1 d2:Dt} {p1 p2 p:bJ} {c1 c2:Int} {k1 k2:Nat}:(kd=1\/kd=2)->rs[n]?=some (kd,v)->Gr rs d1 v.o1 p1 c1 k1->Gr rs d2 v.o2 p2 c2 k2->eY kd v [p1,p2]=some p->Gr rs (.tup [.int (n:Int),d1,d2]) v.n p (v.c+(c1+c2)) (max k1 k2+1)
theorem wG{k:Nat}{p:bJ}{r c:Nat}(hk:k=1\/k=2)(h1:fb p1 r c)(h2:fb p2 r' c')(m:eY k v [p1,p2]=some p):∃r c,fb p r c:=by
 have l:=bC h1.rc h1.r0;have j:=bC h2.rc h2.r0;have e:=h1.rc.1;have b:=h2.rc.1;rcases hk with rfl | rfl
 ·have a:(if p1.length=p2.length/\(p1.headD []).length+(p2.headD []).length<=6 then some (put2 p1 p2) else none)=some p:=m
  by_cases c0:p1.length=p2.length/\(p1.headD []).length+(p2.headD []).length<=6
  ·rw[q07 c0]at a
   cases a;rw[e,b,l,j]at c0;refine⟨r,c+c',⟨?_,h1.r0,h1.r6,by have:=h1.c0;omega,c0.2⟩⟩;refine⟨by unfold put2;rw[Mb,q0L,e,b];omega,λx g=>?_⟩;unfold put2 at g;obtain⟨y,n,rfl⟩:=MR.mp g;have:=List.of_mem_zip n;rw[Mx,h1.rc.2 _ this.1,h2.rc.2 _ this.2]
  ·rw[q06 c0]at a;cases a
 ·have a:(if(p1.headD []).length=(p2.headD []).length/\p1.length+p2.length<=6 then some (p1++p2) else none)=some p:=m
  by_cases c0:(p1.headD []).length=(p2.headD []).length/\p1.length+p2.length<=6
  ·rw[q07 c0]at a
   cases a;rw[e,b,l,j]at c0;refine⟨r+r',c,⟨⟨by rw[Mx,e,b],λx g=>?_⟩,by have:=h1.r0;omega,c0.2,h1.c0,h1.c6⟩⟩;rcases Mo.mp g with h | h
   ·exact h1.rc.2 _ h
   ·rw[c0.1];exact h2.rc.2 _ h
  ·rw[q06 c0]at a;cases a
theorem sY{r c:Nat}(h:fb p r c)(t:Nat):∃r c,fb (turned p t) r c:=by
 have a:fJ (if 4<=t then mirror p else p) r c:=by split;exact h_ h.rc;exact h.rc
 have:=dc (t%4) a h.r0 h.c0;unfold turned
 by_cases e:t%4%2=0
 ·rw[q07 e,q07 e]at this;exact⟨r,c,this,h.r0,h.r6,h.c0,h.c6⟩
 ·rw[q06 e,q06 e]at this;exact⟨c,r,this,h.c0,h.c6,h.r0,h.r6⟩
theorem Gr.pic6{rs:Yaa}(hg:∀r∈rs,df r){d:Dt}{nm:M8}{p:bJ}{c:Int}{k:Nat}(g:Gr rs d nm p c k):∃r c,fb p r c:=by
 induction g with
 | @cell n v e=>
  have:=nS (hg _ (Me e)).good.sg;exact⟨1,1,⟨rfl,λx a=>by rw[Mc.mp a];exact this⟩,nofun,nofun,nofun,nofun⟩
 |turn e _ ih=>obtain⟨r,c,h⟩:=ih;exact sY h _
 |pair h e _ _ m ih1 ih2=>obtain⟨r,c,h1⟩:=ih1;obtain⟨r',c',h2⟩:=ih2;exact wG h h1 h2 m
theorem yl{H:Hp}{lp:Addr}{as:Nb}(h1:H l=some (.lst (as.map V.ref)))(h2:H lp=some (.lst (aH p)))(h3:p≠[]):lp≠l:=λe=>by
 rw[e,h1]at h2;have h4:=HO.lst.inj (q0Q h2);cases p with
 |nil=>exact h3 rfl
 |cons r p=>
  cases as with
  |nil=>exact nomatch h4
  |cons a as=>have:=(List.cons.inj h4).1;cases this
theorem gu(s:aD H H')(h:H' a=none):H a=none:=by
 cases e:H a with
 |none=>rfl
 |some o=>rw[s _ _ e]at h;cases h
theorem iL{H:Hp}{Q:VK}(ha:H a=some (.tup xs))(hb:H b=some (.tup ys))(hx:xs≠[])(hz:xs.length+ys.length<=1000)(q:∀p H',H' p=some (.tup (xs++ys))->aD H H'->Q (.ref p) H'):DB K (.ref a) (.ref b) H Q:=
 ⟨a,b,xs,ys,rfl,rfl,aS.of ha,aS.of hb,hx,am ⋯,λe=>q a H (by rw[e,MJ];exact ha) (aD.refl _),λ_ p hp=>q p _ ad (ae hp)⟩
theorem dG{c:Prop}[Decidable c]{A B:Prop}(hA:c->A)(hB:¬ c->B):if c then A else B:=by
 by_cases h:c
 ·rw[q07 h];exact hA h
 ·rw[q06 h];exact hB h
inductive bB where
 |n0:Int->bB
 |n1:Int->bB->bB
 |n2:Int->bB->bB->bB
def bB.i:bB->Int
 | .n0 i=>i
 | .n1 i _=>i
 | .n2 i _ _=>i
def bB.ps:bB->List bB
 | .n0 _=>[]
 | .n1 _ a=>[a]
 | .n2 _ a b=>[a,b]
def bB.d:bB->Dt
 | .n0 i=>.tup [.int i]
 | .n1 i a=>.tup [.int i,a.d]
 | .n2 i a b=>.tup [.int i,a.d,b.d]
def bB.cnt:bB->Nat
 | .n0 _=>1
 | .n1 _ a=>a.cnt+1
 | .n2 _ a b=>a.cnt+b.cnt+1
def bB.dep:bB->Nat
 | .n0 _=>1
 | .n1 _ a=>a.dep+1
 | .n2 _ a b=>max a.dep b.dep+1
theorem bB.d_eq(t:bB):t.d=.tup (.int t.i::t.ps.map bB.d):=by cases t<;>rfl
theorem bB.val{t:bB}(h:aU H t.d v):∃a vs,v=.ref a/\H a=some (.tup (.int t.i::vs))/\aL H (t.ps.map bB.d) vs:=by
 rw[t.d_eq]at h;unfold aU at h;obtain⟨a,xs,rfl,g,c⟩:=h;obtain⟨x0,j,rfl,b,e⟩:=c.uncons;unfold aU at b;subst b;exact⟨a,j,rfl,g,e⟩
theorem bB.of{H:Hp}{vs:List V}{t:bB}(h:H a=some (.tup (.int t.i::vs)))(k:aL H (t.ps.map bB.d) vs):aU H t.d (.ref a):=by
 rw[t.d_eq];exact aU.node h k
theorem bB.lt{s t:bB}(h:s∈t.ps):s.dep<t.dep/\s.cnt<t.cnt:=by
 cases t with
 |n0 i=>exact nomatch h
 |n1 i a=>rw[Mc.mp h];simp only[bB.dep,bB.cnt];omega
 |n2 i a b=>
  rcases Mq.mp h with rfl | h
  ·simp only[bB.dep,bB.cnt];omega
  ·rw[Mc.mp h];simp only[bB.dep,bB.cnt];omega
theorem bB.cnt1(t:bB):1<=t.cnt:=by cases t<;>simp[bB.cnt]
theorem bB.dep1(t:bB):1<=t.dep:=by cases t<;>simp[bB.dep]
def xP(i:Int):List bB->bB
 | []=>.n0 i
 | [a]=>.n1 i a
 |a::b::_=>.n2 i a b
theorem Au(i:Int)(ds:List bB):(xP i ds).i=i:=by
 match ds with
 | []=>rfl
 | [a]=>rfl
 |a::b::_=>rfl
theorem CO(i:Int){ds:List bB}(h:ds.length<=2):(xP i ds).ps=ds:=by
 match ds,h with
 | [],_=>rfl
 | [a],_=>rfl
 | [a,b],_=>rfl
 |a::b::c::_,h=>simp at h
theorem FY(t:bB):xP t.i t.ps=t:=by cases t<;>rfl
def Sub:List Nat->bB->Option bB
 | [],t=>some t
 |k::pl,t=>match t.ps[k]? with
  |some s=>Sub pl s
  |none=>none
theorem fU{α:Type}(x:α)(xs:List α):gj (x::xs) 0=some x:=show gj (x::xs) ((0:Nat):Int)=some x from a_ rfl
theorem gz:∀{ds:List Dt} {xs:List V},aL H ds xs->∀{j:Nat} {x:V},xs[j]?=some x->∃d,ds[j]?=some d/\aU H d x
 | [],_,h,j,x,e=>by unfold aL at h;subst h;simp at e
 |d::ds,xs,h,j,x,e=>by
  obtain⟨y,r,rfl,h1,h2⟩:=h.uncons
  match j,e with
  |0,e=>cases e;exact⟨d,rfl,h1⟩
  |j+1,e=>exact gz h2 e
theorem oy{t:bB}{vs:List V}{j:Nat}{x:V}(h:aL H (t.ps.map bB.d) vs)(e:vs[j]?=some x):∃s,t.ps[j]?=some s/\aU H s.d x:=by
 obtain⟨d,h1,h2⟩:=gz h e;rw[Md]at h1;obtain⟨s,a,rfl⟩:=MC.mp h1;exact⟨s,a,h2⟩
theorem nE{t:bB}{vs:List V}(h:aL H (t.ps.map bB.d) vs):vs.length=t.ps.length:=by rw[h.length,Mb]
theorem Da(x:V)(ys:List V):lX (x::ys) (some 1) none=ys:=by
 unfold lX;rw[show(some 1:Option Int)=some ((1:Nat):Int) from rfl,HT.sIx_nat,HT.sIx_none,MZ (by simp)];exact q0F (by simp)
theorem mY(x:V)(ys:List V):¬ (HT.sIx (x::ys).length 0 (some 1)=0/\HT.sIx (x::ys).length (x::ys).length none=(x::ys).length):=by
 rw[show(some 1:Option Int)=some ((1:Nat):Int) from rfl,HT.sIx_nat,MZ (by simp)];exact λh=>q0O h.1 nofun
theorem fD{z:Str}{n:Nat}(h:n∈bQ z rs):∃q,rs[n]?=some q/\tx q.2.n=z:=by
 unfold bQ at h;obtain⟨x,hx,e⟩:=List.mem_filterMap.mp h
 split at e
 ·rename_i hz
  cases e;exact⟨x.1,List.mem_zipIdx_iff_getElem?.mp hx,hz⟩
 ·cases e
theorem Aw(S:Nat×RV->Nat)(z:M8):∀(n:Nat) (rs:Yaa),rs.length=n->((bQ (tx z) rs).map λi=>(rs[i]?.map S).getD 0).sum=((ju z rs).map S).sum
 |0,rs,h=>by rw[MQ.mp h];rfl
 |n+1,rs,h=>by
  obtain⟨rs',r,rfl⟩:∃rs' r,rs=rs'++[r]:=⟨rs.dropLast,rs.getLast (by intro e;rw[e]at h;cases h),(List.dropLast_concat_getLast _).symm⟩;have hl:rs'.length=n:=by rw[Mx,q0V]at h;omega
  have b:=Aw S z n rs' hl;rw[rH,Mn,List.sum_append];have j:(bQ (tx z) rs').map (λi=>((rs'++[r])[i]?.map S).getD 0)=(bQ (tx z) rs').map λi=>(rs'[i]?.map S).getD 0:=q0I λi g=>by
   obtain⟨q,c,_⟩:=fD g;rw[Mw (L'.mp c).1]
  rw[j,b];unfold ju;rw[List.filter_append,Mn,List.sum_append]
  congr 1
  by_cases a:r.2.n=z
  ·rw[q07 (by rw[a])]
   simp[a]
  ·rw[q06 (λe=>a (gM e))]
   simp[a]
theorem i6{q:Nat×RV}{r c:Nat}{k:Int}(h4:q.1<4)(hq:1<=q.2.c)(hr:1<=r)(hc:1<=c)(hr6:r<=6)(hc6:c<=6)(hk:k<=16):(cE q r c k).length<=75:=by
 obtain⟨t,v⟩:=q;have:t=0\/t=1\/t=2\/t=3:=by simp at h4;omega
 simp only at hq;rcases this with rfl | rfl | rfl | rfl
 ·show(if r=1/\c=1/\k=v.c then[[]] else[]).length<=75
  split<;>simp
 ·refine MG (gy (by show k-v.c<=15;omega) _ λz a=>kJ hr a) ?_
  rw[jv];omega
 ·refine MG (gy (by show k-v.c<=15;omega) _ λz a=>kF hc a) ?_
  rw[iX];omega
 ·show([[_]]:List (List TR)).length<=75
  simp
theorem pf{z:Str}:∀{m:List (Str×List Nat)},z∉m.map (·.1)->m.lookup z=none
 | [],_=>rfl
 |p::m,h=>by
  rw[MF,Mq]at h;have h1:(z==p.1)=false:=beq_eq_false_iff_ne.mpr λe=>h (.inl e);rw[List.lookup_cons,h1];exact pf λq=>h (.inr q)
theorem FZ{H:Hp}{t:Nat}{Q:VK}(hb:H b=some (.tup (ck p)))(h4:t<4)(ra:jb R H t a v)(r1:1<=p.2.1)(r6:p.2.1<=6)(c1:1<=p.2.2.1)(c6:p.2.2.1<=6)(k16:p.2.2.2<=16)(k1:1<=p.2.2.2)(vc:1<=v.c)(vc9:v.c<=9)(vt:0<=v.t)(q:∀l H',H l=none->fR H H' l (cE (t,v) p.2.1 p.2.2.1 p.2.2.2)->aD H H'->Q (.ref l) H') :
  ∃o,o∈lT R/\∃a_1,V.ref a=V.ref a_1/\∃dx fs,H a_1=some (.ins o.1 dx fs)/\fs.lookup (Str.ofString "part_rows")=none/\∃xs,aS K H b xs/\∃v1,gj xs 1=some v1/\∃xs,aS K H b xs/\∃v2,gj xs 2=some v2/\∃xs,aS K H b xs/\∃v3,gj xs 3=some v3/\o.2 [.ref a,v1,v2,v3] H Q E:=by
 obtain⟨o,c,dx,fs,j,g,e⟩:=D4 (E:=E) h4 ra r1 r6 c1 c6 k16 k1 vc vc9 vt q;exact⟨o,c,a,rfl,dx,fs,j,g,_,aS.of hb,_,rfl,_,aS.of hb,_,rfl,_,aS.of hb,_,rfl,e⟩
abbrev vS:=Nat×List TR×Nat
def cQ(rs:Yaa)(p:TR)(i:Nat):List vS:=match rs[i]? with
 |some q=>(cE q p.2.1 p.2.2.1 p.2.2.2).filterMap λps=>if 0<aZ (CN rs) ps then some (i,ps,aZ (CN rs) ps) else none
 |none=>[]
def aY(rs:Yaa)(p:TR):List vS:=if p.2.2.2<fw p.2.1 p.2.2.1 then[] else(bQ (tx p.1) rs).flatMap (cQ rs p)
def bK(F:TR->List bB):List TR->List (List bB)
 | []=>[[]]
 |p::ps=>(F p).flatMap λt=>(bK F ps).map (t :: ·)
def Gn(rs:Yaa):Nat->TR->List bB
 |0,_=>[]
 |f+1,p=>(aY rs p).flatMap λs=>(bK (Gn rs f) s.2.1).map (xP (s.1:Int))
abbrev RT(rs:Yaa)(p:TR):List bB:=Gn rs 17 p
structure fm(p:TR):Prop where
 r1:1<=p.2.1
 r6:p.2.1<=6
 c1:1<=p.2.2.1
 c6:p.2.2.1<=6
 k16:p.2.2.2<=16
theorem fK{s:vS}(h:s∈aY rs p):∃q,rs[s.1]?=some q/\q.2.n=p.1/\s.2.1∈cE q p.2.1 p.2.2.1 p.2.2.2/\s.2.2=aZ (CN rs) s.2.1/\0<s.2.2/\fw p.2.1 p.2.2.1<=p.2.2.2:=by
 unfold aY at h
 split at h
 ·cases h
 ·rename_i hk
  obtain⟨i,hi,h⟩:=List.mem_flatMap.mp h;obtain⟨q,hq,hn⟩:=fD hi;unfold cQ at h;rw[hq]at h;obtain⟨ps,hps,e⟩:=List.mem_filterMap.mp h
  split at e
  ·rename_i h0
   cases e;exact⟨q,hq,gM hn,hps,rfl,h0,⋯⟩
  ·cases e
theorem fF(hg:eC rs){p p':TR}{s:vS}(ok:fm p)(h:s∈aY rs p)(hp:p'∈s.2.1):fm p'/\p'.2.2.2<p.2.2.2:=by
 obtain⟨q,c,_,b,_,_,hk⟩:=fK h;obtain⟨g,e,_⟩:=hg q (Me c);have a:=nh g e ok.r1 ok.c1 b hp;have:=ok.r6;have:=ok.c6;have:=ok.k16;have:=a.rm;have:=a.cm;exact⟨⟨a.r1,⋯,a.c1,⋯,by have:=a.lt;omega⟩,a.lt⟩
theorem oV{F G:TR->List bB}:∀{ps:List TR},(∀p∈ps,F p=G p)->bK F ps=bK G ps
 | [],_=>rfl
 |p::ps,h=>by
  unfold bK;rw[h p q0B,oV λp' hp'=>h p' (Mr _ hp')]
theorem kf{α β:Type}{f g:α->List β}:∀{l:List α},(∀x∈l,f x=g x)->l.flatMap f=l.flatMap g
 | [],_=>rfl
 |x::l,h=>by rw[List.flatMap_cons,List.flatMap_cons,h x q0B,kf λy hy=>h y (Mr _ hy)]
theorem AT(ok:fm p)(h:p.2.2.2<1):aY rs p=[]:=by
 unfold aY;rw[q07 (by have:=cq ok.r1 ok.c1;omega)]
theorem mR(ok:fm p)(h:p.2.2.2<1)(f:Nat):Gn rs f p=[]:=by
 cases f with
 |zero=>rfl
 |succ f=>unfold Gn;rw[AT ok h];rfl
theorem wt(hg:eC rs):∀(f:Nat) (p:TR),fm p->p.2.2.2<(f:Int)+1->Gn rs (f+1) p=Gn rs f p
 |0,p,ok,h=>by rw[mR ok (by simpa using h),mR ok (by simpa using h)]
 |f+1,p,ok,h=>by
  show(aY rs p).flatMap _=(aY rs p).flatMap _;refine kf λs hs=>?_;rw[oV λp' hp'=>?_];obtain⟨ok',lt⟩:=fF hg ok hs hp';exact wt hg f p' ok' (by push_cast at h;omega)
theorem pR(hg:eC rs){p:TR}(ok:fm p):RT rs p=(aY rs p).flatMap λs=>(bK (RT rs) s.2.1).map (xP (s.1:Int)):=by
 have:=(wt hg 17 p ok (by have:=ok.k16;push_cast;omega)).symm;exact this
theorem wA{α β:Type}{f:α->List β}{n:Nat}:∀{l:List α},(∀x,(f x).length=n)->(l.flatMap f).length=l.length*n
 | [],_=>by simp
 |x::l,h=>by rw[List.flatMap_cons,Mx,h x,wA (l:=l) h,Mm,Nat.add_mul];omega
theorem yo{i:Nat}:∀pss:List (List TR),((pss.filterMap λps=>if 0<aZ (CN rs) ps then some ((i,ps,aZ (CN rs) ps):vS) else none).map λs=>s.2.2).sum=(pss.map λps=>aZ (CN rs) ps).sum
 | []=>rfl
 |ps::pss=>by
  rw[q0R,MF,List.sum_cons]
  by_cases h0:0<aZ (CN rs) ps
  ·rw[q07 h0]
   show((_::_:List vS).map λs=>s.2.2).sum=_;rw[MF,List.sum_cons,yo pss]
  ·rw[q06 h0]
   show(List.map _ _).sum=_;rw[yo pss];omega
theorem gC{F:TR->List bB}{g:TR->Nat}:∀{ps:List TR},(∀p∈ps,(F p).length=g p)->(bK F ps).length=aZ g ps:=by
 have a:∀{ps:List TR} (m:Nat),(∀p∈ps,(F p).length=g p)->ps.foldl (λm p=>m*g p) m=m*(bK F ps).length:=by
  intro ps
  induction ps with
  |nil=>intro m _;unfold bK;simp
  |cons p ps ih=>
   intro m h;rw[List.foldl_cons,ih _ λc b=>h c (Mr _ b)];have:(bK F (p::ps)).length=(F p).length*(bK F ps).length:=by
    show((F p).flatMap λt=>(bK F ps).map (t :: ·)).length=_;rw[wA (n:=(bK F ps).length) λt=>by rw[Mb]]
   rw[this,h p q0B,Nat.mul_assoc]
 intro ps h;unfold aZ;rw[a 1 h,Nat.one_mul]
theorem kg{α β:Type}(f:α->List β):∀l:List α,(l.flatMap f).length=(l.map λx=>(f x).length).sum
 | []=>rfl
 |x::l=>by rw[List.flatMap_cons,Mx,kg f l,MF,List.sum_cons]
theorem n6(hg:eC rs){p:TR}(ok:fm p):((aY rs p).map λs=>s.2.2).sum=CN rs p:=by
 unfold aY
 by_cases a:p.2.2.2<fw p.2.1 p.2.2.1
 ·rw[q07 a,DK a];rfl
 rw[q06 a];have:=ok.r1;have:=ok.r6;have:=ok.c1;have:=ok.c6;rw[FX hg ok.k16,q06 ⋯,<- Aw (λq=>((cE q p.2.1 p.2.2.1 p.2.2.2).map λps=>aZ (CN rs) ps).sum) p.1 _ rs rfl,oX]
 congr 1
 refine q0I λi c=>?_;obtain⟨q,b,_⟩:=fD c;rw[b];show((cQ rs p i).map λs=>s.2.2).sum=((cE q p.2.1 p.2.2.1 p.2.2.2).map λps=>aZ (CN rs) ps).sum;have e:cQ rs p i=(cE q p.2.1 p.2.2.1 p.2.2.2).filterMap λps=>if 0<aZ (CN rs) ps then some (i,ps,aZ (CN rs) ps) else none:=by unfold cQ;rw[b]
 rw[e,yo]
theorem Dv(hg:eC rs):∀(f:Nat) (p:TR),fm p->p.2.2.2<(f:Int)->(RT rs p).length=CN rs p
 |0,p,ok,h=>by
  show(Gn rs 17 p).length=_;rw[mR ok (by simp at h;omega),DK (by have:=cq ok.r1 ok.c1;simp at h;omega)];rfl
 |f+1,p,ok,h=>by
  rw[pR hg ok,kg,<- n6 hg ok]
  congr 1
  refine q0I λs hs=>?_;obtain⟨q,hq,_,hps,e,_⟩:=fK hs;rw[Mb,gC (g:=CN rs) λp' hp'=>?_,e];obtain⟨ok',lt⟩:=fF hg ok hs hp';exact Dv hg f p' ok' (by push_cast at h;omega)
theorem cw(hg:eC rs){p:TR}(ok:fm p):(RT rs p).length=CN rs p:=Dv hg 17 p ok (by have:=ok.k16;push_cast;omega)
theorem wE{α β:Type}{f:α->List β}{l:List α}{i:Nat}{x:α}(hx:l[i]?=some x){j:Nat}(hj:j<(f x).length):(l.flatMap f)[((l.take i).map λy=>(f y).length).sum+j]?=(f x)[j]?:=by
 obtain⟨a,e⟩:=L'.mp hx;have c:l=l.take i++x::l.drop (i+1):=by rw[<- e,<- List.drop_eq_getElem_cons a,List.take_append_drop]
 have b:l.flatMap f=(l.take i).flatMap f++(f x++(l.drop (i+1)).flatMap f):=by
  conv=>lhs;rw[c]
  rw[List.flatMap_append,List.flatMap_cons]
 rw[b,<- kg,Mv ⋯,Nat.add_sub_cancel_left,Mw hj]
theorem tQ{α:Type}(g:α->Nat):∀(l:List α) (i:Nat) (x:α),l[i]?=some x->((l.take (i+1)).map g).sum=((l.take i).map g).sum+g x:=by
 intro l i x h;rw[q0E,h,Mn,List.sum_append];simp
theorem iQ{p:TR}(k:Nat):(bK F [p])[k]?=(F p)[k]?.map λt=>[t]:=by
 unfold bK bK;have:((F p).flatMap λt=>([[]]:List (List bB)).map (t :: ·))=(F p).map λt=>[t]:=by
  induction F p with
  |nil=>rfl
  |cons t l ih=>rw[List.flatMap_cons,ih];rfl
 rw[this,Md]
theorem yH{α β:Type}{f:α->List β}{n:Nat}(hn:∀x,(f x).length=n):∀{l:List α} {k:Nat} {x:α} {y:β},l[k/n]?=some x->(f x)[k%n]?=some y->(l.flatMap f)[k]?=some y:=by
 intro l k x y h1 h2
 by_cases e:n=0
 ·subst e
  have:=hn x;rw[MQ.mp this]at h2;simp at h2
 have a:((l.take (k/n)).map λy=>(f y).length).sum=k/n*n:=by
  have b:(l.take (k/n)).length=k/n:=by rw[MN];have:=(L'.mp h1).1;omega
  have:∀m:List α,(m.map λy=>(f y).length).sum=m.length*n:=by
   intro m
   induction m with
   |nil=>simp
   |cons z m ih=>rw[MF,List.sum_cons,ih,hn,Mm,Nat.add_mul];omega
  rw[this,b]
 have c:k%n<(f x).length:=by rw[hn];exact Nat.mod_lt _ ⋯
 have:=wE h1 c;rw[a,h2]at this;rw[show k/n*n+k%n=k by rw[Nat.mul_comm];exact Nat.div_add_mod k n]at this;exact this
theorem tZ{F:TR->List bB}{k:Nat}{t1 t2:bB}(h1:(F p1)[k/(F p2).length]?=some t1)(h2:(F p2)[k%(F p2).length]?=some t2):(bK F [p1,p2])[k]?=some [t1,t2]:=by
 show((F p1).flatMap λt=>(bK F [p2]).map (t :: ·))[k]?=_;have a:(bK F [p2]).length=(F p2).length:=by
  rw[gC (g:=λp=>(F p).length) λ_ _=>rfl];simp[aZ]
 refine yH (n:=(F p2).length) (λt=>by rw[Mb,a]) h1 ?_;rw[Md,iQ,h2];rfl
theorem Ec(hg:eC rs){p:TR}(ok:fm p){i:Nat}{s:vS}(hs:(aY rs p)[i]?=some s){j:Nat}{ts:List bB}(hj:(bK (RT rs) s.2.1)[j]?=some ts):(RT rs p)[(((aY rs p).take i).map λs=>s.2.2).sum+j]?=some (xP (s.1:Int) ts):=by
 rw[pR hg ok];have b:∀s∈aY rs p,((bK (RT rs) s.2.1).map (xP (s.1:Int))).length=s.2.2:=λs hs=>by
  obtain⟨q,hq,_,hps,e,_⟩:=fK hs;rw[Mb,gC (g:=CN rs) λp' a=>cw hg (fF hg ok hs a).1,e]
 have e:(((aY rs p).take i).map λs=>s.2.2)=((aY rs p).take i).map λs=>((bK (RT rs) s.2.1).map (xP (s.1:Int))).length:=q0I λs hs=>(b s (q0G hs)).symm;rw[e,wE (f:=λs:vS=>(bK (RT rs) s.2.1).map (xP (s.1:Int))) hs (by rw[Mb];exact(L'.mp hj).1),Md,hj]
 rfl
def cB(H0 H:Hp)(l:Addr)(ss:List vS):Prop:=H0 l=none/\∃ts:List Addr,H l=some (.lst (ts.map V.ref))/\ts.length=ss.length/\∀(i:Nat) t s,ts[i]?=some t->ss[i]?=some s->∃rl,(H0 rl=none/\rl≠l)/\H t=some (.tup [.int (s.1:Int),.ref rl,.int (s.2.2:Int)])/\p_ H rl s.2.1
theorem cB.kp{ms:List vS}(h:cB H0 H l ms)(s:Kp H H'):cB H0 H' l ms:=by
 obtain⟨k,a,h1,h2,j⟩:=h;refine⟨k,a,s.lst h1,h2,λi t x n m=>?_⟩;obtain⟨b,c,e,g⟩:=j i t x n m;exact⟨b,c,s.tup e,g.kp s⟩
theorem cB.nil{H0 H:Hp}(h0:H0 l=none)(h:H l=some (.lst [])):cB H0 H l []:=⟨h0,[],h,rfl,λi a ps e=>by simp at e⟩
theorem cB.app{t rl:Addr}{ms:List vS}{x:vS}(h:cB H0 H l ms)(hx:H l=some (.lst xs))(ht:H t=some (.tup [.int (x.1:Int),.ref rl,.int (x.2.2:Int)]))(hT:p_ H rl x.2.1)(hn:H0 rl=none/\rl≠l):cB H0 (aA H l (.lst (xs++[V.ref t]))) l (ms++[x]):=by
 obtain⟨v,j,h1,h2,u⟩:=h;rw[hx]at h1;cases h1;have a:∀m o,H m=some (.tup o)->aA H l (.lst (j.map V.ref++[V.ref t])) m=some (.tup o):=λm o e=>by rw[ao (λz=>by rw[z,hx]at e;cases e)];exact e
 refine⟨v,j++[t],by rw[ad,Mn];rfl,by rw[Mx,Mx,h2];rfl,λi b y g k=>?_⟩
 by_cases r:i<j.length
 ·rw[Mw r]at g
  rw[Mw ⋯]at k;obtain⟨n,c,e,q⟩:=u i b y g k;exact⟨n,c,a _ _ e,q.put c.2 ⟨_,hx⟩⟩
 ·have p:i=j.length:=by
   have:=(L'.mp g).1;simp at this;omega
  subst p;rw[Mv (My _),Nat.sub_self]at g;rw[h2,Mv (My _),Nat.sub_self]at k;cases g;cases k
  exact⟨rl,hn,a _ _ ht,hT.put hn.2 ⟨_,hx⟩⟩
theorem cB.len{ms:List vS}(h:cB H0 H l ms)(hx:H l=some (.lst xs)):xs.length=ms.length:=by
 obtain⟨_,ts,h1,h2,_⟩:=h;rw[hx]at h1;cases h1;rw[Mb,h2]
def HB(H:Hp)(l:Addr)(ps:List TR):Prop:=∃(bs:Nb) (o:Obj),H l=some (.frz o (.lst (bs.map V.ref)))/\bs.length=ps.length/\∀(i:Nat) b p,bs[i]?=some b->ps[i]?=some p->H b=some (.tup (ck p))
def j6(H:Hp)(l:Addr)(ss:List vS):Prop:=∃(ts:Nb) (o:Obj),H l=some (.frz o (.lst (ts.map V.ref)))/\ts.length=ss.length/\∀(i:Nat) t s,ts[i]?=some t->ss[i]?=some s->∃rl,H t=some (.tup [.int (s.1:Int),.ref rl,.int (s.2.2:Int)])/\HB H rl s.2.1
def wl(H H':Hp):Prop:=(∀x o u,H x=some (.frz o u)->H' x=some (.frz o u))/\∀x xs,H x=some (.tup xs)->H' x=some (.tup xs)
theorem Kp.z(s:Kp H H'):wl H H':=⟨λx o u e=>s _ _ id e,λx xs e=>s _ _ id e⟩
theorem wl.trans(a:wl H H1)(b:wl H1 H2):wl H H2:=⟨λx o u e=>b.1 x o u (a.1 x o u e),λx xs e=>b.2 x xs (a.2 x xs e)⟩
theorem wl.put{H:Hp}(h:H l=some (.lst xs)):wl H (aA H l o):=⟨λx o u e=>by rw[ao (λz=>by rw[z,h]at e;cases e)];exact e,λx ys e=>by rw[ao (λz=>by rw[z,h]at e;cases e)];exact e⟩
theorem wl.frz{H:Hp}{ls:Nb}{os:Addr->Obj}:wl H (cS H ls os):=⟨λx o u e=>gE e (.inr λxs z=>by cases z),λx xs e=>gE e (.inr λxs z=>by cases z)⟩
theorem HB.kz{ps:List TR}(h:HB H l ps)(s:wl H H'):HB H' l ps:=by
 obtain⟨bs,o,h1,h2,a⟩:=h;exact⟨bs,o,s.1 _ _ _ h1,h2,λi b p e c=>s.2 _ _ (a i b p e c)⟩
theorem j6.kz{ms:List vS}(h:j6 H l ms)(s:wl H H'):j6 H' l ms:=by
 obtain⟨a,o,h1,h2,g⟩:=h;refine⟨a,o,s.1 _ _ _ h1,h2,λi t x k j=>?_⟩;obtain⟨b,e,c⟩:=g i t x k j;exact⟨b,s.2 _ _ e,c.kz s⟩
def Di(H:Hp)(t:Addr):Option Addr:=match H t with
 |some (.tup [_,.ref rl,_])=>some rl
 |_=>none
theorem cB.known{ss:List vS}(h:cB H0 H l ss):∃ls:List Addr,(∀x∈ls,∃xs,H x=some (.lst xs))/\(∀x∈ls,H0 x=none)/\∀os,j6 (cS H ls os) l ss:=by
 obtain⟨D,c,h1,h2,r⟩:=h;have a:∀x∈c.filterMap (Di H),(∃xs,H x=some (.lst xs))/\H0 x=none:=λx hx=>by
  obtain⟨t,y,e⟩:=List.mem_filterMap.mp hx;obtain⟨i,q⟩:=List.getElem?_of_mem y;obtain⟨g,o,n,m⟩:=r i t (ss[i]'(by rw[<- h2];exact(L'.mp q).1)) q (L_ _);unfold Di at e;rw[n]at e;cases e;obtain⟨bs,k,_⟩:=m;exact⟨⟨_,k⟩,o.1⟩
 refine⟨l::c.filterMap (Di H),λx hx=>?_,λx hx=>?_,λos=>?_⟩
 ·rcases Mq.mp hx with rfl | hx
  ·exact⟨_,h1⟩
  ·exact(a x hx).1
 ·rcases Mq.mp hx with rfl | hx
  ·exact D
  ·exact(a x hx).2
 ·refine⟨c,_,x5 h1 (q0B ..),h2,λi t s u n=>?_⟩
  obtain⟨g,o,e,m⟩:=r i t s u n;have B:g∈c.filterMap (Di H):=List.mem_filterMap.mpr ⟨t,Me u,by unfold Di;rw[e]⟩;obtain⟨bs,k,C,j⟩:=m;exact⟨g,wl.frz.2 _ _ e,bs,_,x5 k (Mr _ B),C,λi b p w v=>wl.frz.2 _ _ (j i b p w v)⟩
def fN(H:Hp)(rs:Yaa)(m1:List (List c8×V)):Prop:=∀(p:TR) v,cn m1 (dA p)=some v->∃l,v=.ref l/\j6 H l (aY rs p)
theorem fN.kz{m1:List (List c8×V)}(h:fN H rs m1)(s:wl H H'):fN H' rs m1:=λp v e=>by
 obtain⟨l,e2,h2⟩:=h p v e;exact⟨l,e2,h2.kz s⟩
theorem fN.kp{m1:List (List c8×V)}(h:fN H rs m1)(s:Kp H H'):fN H' rs m1:=h.kz s.z
theorem n8(hg:eC rs){p:TR}(ok:fm p)(h24:rs.length<=24):(aY rs p).length<=1800:=by
 unfold aY
 split
 ·simp
 ·rw[kg]
  refine MG (m7 _ 75 _ λi b=>?_) ?_
  ·obtain⟨q,a,_⟩:=fD b
   obtain⟨e,c,_⟩:=hg q (Me a);unfold cQ;rw[a];exact MG (List.length_filterMap_le _ _) (i6 e c ok.r1 ok.c1 ok.r6 ok.c6 ok.k16)
  ·have:=ul (tx p.1) rs
   omega
def HY(g d1 d2:Addr):List (Str×V):=[("grammar",.ref g),("steps",.ref d1),("totals",.ref d2)]
structure pW(st:M8)(rs:Yaa)(m:Nat)(p:TR):Prop where
 nm:tx p.1∈(bo (tx st) rs).map (·.1)
 r1:1<=p.2.1
 rm:p.2.1<=m
 c1:1<=p.2.2.1
 cm:p.2.2.1<=m
 k0:-8<=p.2.2.2
 k16:p.2.2.2<=16
theorem qN{α:Type}[DecidableEq α]:∀{l L:List α},l.Nodup->(∀x∈l,x∈L)->l.length<=L.length
 | [],_,_,_=>Mz _
 |x::l,L,hn,hs=>by
  have hx:x∈L:=hs x q0B;rw[q0Y]at hn;have:=qN (l:=l) (L:=L.erase x) hn.2 λy hy=>(List.mem_erase_of_ne λe=>hn.1 (by rw[<- e];exact hy)).mpr (hs y (Mr _ hy));rw[List.length_erase_of_mem hx]at this;have:=List.length_pos_of_mem hx;rw[Mm];omega
theorem hV{α β:Type}{f:α->List β}{n:Nat}:∀{l:List α},(∀x,(f x).length=n)->(l.flatMap f).length=l.length*n
 | [],_=>by simp
 |x::l,h=>by rw[List.flatMap_cons,Mx,h x,hV (l:=l) h,Mm,Nat.add_mul];omega
def B9(zs:Ng):List (List c8):=zs.flatMap λz=>(List.range 7).flatMap fun(r:Nat)=>(List.range 7).flatMap fun(c:Nat)=>(List.range 25).map fun(j:Nat)=>[.inr z,.inl (r:Int),.inl (c:Int),.inl ((j:Int)-8)]
theorem DE(zs:Ng):(B9 zs).length=zs.length*(7*(7*25)):=
 hV λz=>(hV λr=>(hV λc=>by rw[Mb,q0H]).trans (by rw[q0H])).trans (by rw[q0H])
theorem Dk{st:M8}(d:pW st rs m p)(h6:m<=6):dA p∈B9 ((bo (tx st) rs).map (·.1)):=by
 have:=d.rm;have:=d.cm;have:=d.k0;have:=d.k16;refine List.mem_flatMap.mpr ⟨_,d.nm,List.mem_flatMap.mpr ⟨p.2.1,List.mem_range.mpr ⋯,List.mem_flatMap.mpr ⟨p.2.2.1,List.mem_range.mpr ⋯,MR.mpr ⟨(p.2.2.2+8).toNat,List.mem_range.mpr ⋯,?_⟩⟩⟩⟩;unfold dA;rw[show(((p.2.2.2+8).toNat:Int)-8)=p.2.2.2 by omega]
structure rj(st:M8)(rs:Yaa)(m:Nat)(m1 m2:List (List c8×V)):Prop where
 n1:(m1.map (·.1)).Nodup
 n2:(m2.map (·.1)).Nodup
 k1:∀k∈m1.map (·.1),k∈B9 ((bo (tx st) rs).map (·.1))
 k2:∀k∈m2.map (·.1),k∈B9 ((bo (tx st) rs).map (·.1))
 ok:∀p:TR,(cn m1 (dA p)).isSome=true->cn m2 (dA p)=some (.int (CN rs p:Nat))
theorem rj.len{st:M8}{m1:List (List c8×V)}(h:rj st rs m m1 m2)(hz:(bo (tx st) rs).length<=100):m1.length<sizeLine/\m2.length<sizeLine:=by
 have h1:=qN h.n1 h.k1;have h2:=qN h.n2 h.k2;rw[DE,Mb,Mb]at h1 h2;exact⟨bf ⋯,bf ⋯⟩
structure gW(R:RC)(CG CT:Addr)(H:Hp)(a dx g dg d1 d2:Addr)(sg st:M8)(as:Nb)(rs:Yaa)(m:Nat):Prop where
 at_:H a=some (.ins CT dx (HY g d1 d2))
 ne:d1≠d2
 gr:dU R H CG dg g sg st as rs
 gc:eC rs
 gt:∀q∈rs,0<=q.2.t
 sm:∀p:TR,p.2.1<=m->p.2.2.1<=m->p.2.2.2<=7->CN rs p<2 ^ 64
 m6:m<=6
 n24:rs.length<=24
 nz:(bo (tx st) rs).length<=100
 mm:∃m1 m2,H d1=some (.dT m1)/\H d2=some (.dT m2)/\rj st rs m m1 m2/\fN H rs m1
section
variable {R:RC}{CG CT:Addr}{H H':Hp}{a dx g dg d1 d2:Addr}{sg st:M8}{as:Nb}{rs:Yaa}{m:Nat}
theorem gW.kp(e:gW R CG CT H a dx g dg d1 d2 sg st as rs m)(s:bZ d1 d2 H H'):Kp H H':=λx o ho hx=>by
 obtain⟨m1,m2,h1,h2,_⟩:=e.mm;refine s x o (λz=>?_) (λz=>?_) hx
 ·rw[z,h1]at hx;cases hx;exact ho trivial
 ·rw[z,h2]at hx;cases hx;exact ho trivial
theorem gW.next(e:gW R CG CT H a dx g dg d1 d2 sg st as rs m)(s:bZ d1 d2 H H')(mm:∃m1 m2,H' d1=some (.dT m1)/\H' d2=some (.dT m2)/\rj st rs m m1 m2/\fN H' rs m1):gW R CG CT H' a dx g dg d1 d2 sg st as rs m:=
 ⟨(e.kp s).ins e.at_,e.ne,e.gr.kp (e.kp s),e.gc,e.gt,e.sm,e.m6,e.n24,e.nz,mm⟩
theorem gW.fresh(e:gW R CG CT H a dx g dg d1 d2 sg st as rs m)(s:bZ d1 d2 H H')(mm:∃m1 m2,H' d1=some (.dT m1)/\H' d2=some (.dT m2)/\rj st rs m m1 m2/\fN H' rs m1){x:Addr}(hx:H' x=none):H x=none:=by
 cases b:H x with
 |none=>rfl
 |some o=>
  obtain⟨m1,m2,h1,h2,_⟩:=mm;have:=s x o (λz=>by rw[z,h1]at hx;cases hx) (λz=>by rw[z,h2]at hx;cases hx) b;rw[this]at hx;cases hx
theorem gW.up(e:gW R CG CT H a dx g dg d1 d2 sg st as rs m)(s:aD H H'):gW R CG CT H' a dx g dg d1 d2 sg st as rs m:=by
 obtain⟨m1,b,h1,h2,j,c⟩:=e.mm;exact e.next (.of s) ⟨m1,b,s _ _ h1,s _ _ h2,j,c.kp (.of s)⟩
end
theorem Bq{st:M8}{rs:Yaa}{q:Nat×RV}(hq:q∈rs)(h4:q.1<4){z:M8}(hz:z∈bw q.1 q.2):tx z∈(bo (tx st) rs).map (·.1):=
 (qt _ _ _).mpr (.inr ⟨(tx q.2.n,(bw q.1 q.2).map tx),by unfold G3;exact List.mem_map_of_mem (f:=λr:Nat×RV=>(tx r.2.n,(bw r.1 r.2).map tx)) hq,.inr (List.mem_map_of_mem hz)⟩)
theorem pW.part{st:M8}{p':TR}{q:Nat×RV}{ps:List TR}(d:pW st rs m p)(gc:eC rs)(hq:q∈rs)(k1:1<=p.2.2.2)(h:ps∈cE q p.2.1 p.2.2.1 p.2.2.2)(hp:p'∈ps):pW st rs m p'/\p'.2.2.2<p.2.2.2:=by
 obtain⟨g,k,hc9⟩:=gc q hq;have a:=nh g k d.r1 d.c1 h hp;have:=d.rm;have:=d.cm;have:=d.k16;have:=a.rm;have:=a.cm;have lt:=a.lt;refine⟨⟨?_,a.r1,⋯,a.c1,⋯,?_,⋯⟩,lt⟩
 ·have b:p'.1∈bw q.1 q.2:=by
   rcases dl g d.r1 d.c1 h with rfl | ⟨p2,rfl,l,e2,e3⟩ | ⟨j,z,f,sz,f1,f2,rfl⟩
   ·cases hp
   ·rw[Mc.mp hp,l]
    have:q.1=0\/q.1=1\/q.1=2\/q.1=3:=by omega
    rcases this with e | e | e | e
    ·exfalso
     unfold cE at h;rw[e]at h;simp only at h
     split at h
     ·simp at h
     ·simp at h
    ·rw[e];simp[bw]
    ·rw[e];simp[bw]
    ·rw[e];simp[bw]
   ·have c:bw q.1 q.2=[q.2.o1,q.2.o2]:=by rcases j with e | e<;>rw[e]<;>rfl
    rw[c];rcases(show p'=_\/p'=_ by simpa using hp) with rfl | rfl<;>simp
  exact Bq hq g b
 ·rcases a.ge with h | h<;>omega
abbrev d8(st:M8)(rs:Yaa)(m:Nat)(H:Hp)(d1 d2:Addr):Prop:=∃m1 m2,H d1=some (.dT m1)/\H d2=some (.dT m2)/\rj st rs m m1 m2/\fN H rs m1
inductive bz(R:RC)(CG CT CN_:Addr)(n:Nat)(vs:List V)(H:Hp)(Q:VK)(E:XK):Prop
 |mk (a dx g dg d1 d2 b:Addr) (sg st:M8) (as:Nb) (rs:Yaa) (m:Nat) (p:TR) (_:vs=[.ref a,.ref b]) (_:gW R CG CT H a dx g dg d1 d2 sg st as rs m) (_:H b=some (.tup (ck p))) (_:((pW st rs m p/\0<n/\p.2.2.2<(n:Int)/\(∀H',bZ d1 d2 H H'->d8 st rs m H' d1 d2->Q (.int (CN rs p:Nat)) H'))\/(0<n/\tx p.1∉(bo (tx st) rs).map (·.1)/\E (.ref CN_) none H)))
inductive bS(R:RC)(CG CT CN_:Addr)(n:Nat)(vs:List V)(H:Hp)(Q:VK)(E:XK):Prop
 |mk (a dx g dg d1 d2 b:Addr) (sg st:M8) (as:Nb) (rs:Yaa) (m:Nat) (p:TR) (_:vs=[.ref a,.ref b]) (_:gW R CG CT H a dx g dg d1 d2 sg st as rs m) (_:H b=some (.tup (ck p))) (_:((pW st rs m p/\0<n/\p.2.2.2<(n:Int)/\(∀l H',bZ d1 d2 H H'->d8 st rs m H' d1 d2->(∃m2,H' d2=some (.dT m2)/\cn m2 (dA p)=some (.int (CN rs p:Nat)))->j6 H' l (aY rs p)->Q (.ref l) H'))\/(0<n/\tx p.1∉(bo (tx st) rs).map (·.1)/\E (.ref CN_) none H)))
inductive fh(R:RC)(CG CT CN_:Addr)(n:Nat)(vs:List V)(H:Hp)(Q:VK)(E:XK):Prop
 |mk (a dx g dg d1 d2 b:Addr) (sg st:M8) (as:Nb) (rs:Yaa) (m:Nat) (p:TR) (_:vs=[.ref a,.ref b]) (_:gW R CG CT H a dx g dg d1 d2 sg st as rs m) (_:H b=some (.tup (ck p))) (_:((pW st rs m p/\0<n/\p.2.2.2<(n:Int)/\(∀l H',bZ d1 d2 H H'->d8 st rs m H' d1 d2->cB H H' l (aY rs p)->Q (.ref l) H'))\/(0<n/\tx p.1∉(bo (tx st) rs).map (·.1)/\E (.ref CN_) none H)))
inductive cG(R:RC)(CG CT:Addr)(n:Nat)(vs:List V)(H:Hp)(Q:VK)(_E:XK):Prop
 |mk (a dx g dg d1 d2 l:Addr) (sg st:M8) (as:Nb) (rs:Yaa) (m:Nat) (ps:List TR) (_:vs=[.ref a,.ref l]) (_:gW R CG CT H a dx g dg d1 d2 sg st as rs m) (_:p_ H l ps) (_:(∀p∈ps,pW st rs m p/\0<n/\p.2.2.2<(n:Int))) (_:ps.length<=2) (_:(∀p1 p2,ps=[p1,p2]->p1.2.2.2<=7\/p2.2.2.2<=7)) (_:∀H',bZ d1 d2 H H'->d8 st rs m H' d1 d2->Q (.int (aZ (CN rs) ps:Nat)) H')
theorem vm{t u:TS}{σ:St}(h:∀t' u',t'=t->u'=u->DM c t' u' D σ H):DM c t u D σ H:=h t u rfl rfl
theorem pW.row{st:M8}(d:pW st rs m p)(h6:m<=6):fm p:=⟨d.r1,by have:=d.rm;omega,d.c1,by have:=d.cm;omega,d.k16⟩
abbrev gB:Stmt:=fz 41 0
inductive fM(K:W.Frag)(vs:List V)(H:Hp)(Q:VK)(_E:XK):Prop
 |mk (a C dx g:Addr) (_:vs=[.ref a,.ref g]) (_:H a=some (.ins C dx [])) (_:mG K C) (_:(aq K C "grammar"/\aq K C "steps"/\aq K C "totals")) (_:∀d1 d2 H',H d1=none->H d2=none->d1≠d2->H' a=some (.ins C dx (HY g d1 d2))->H' d1=some (.dT [])->H' d2=some (.dT [])->bU a H H'->Q .non H')
theorem xX:ay ["self","grammar"] ["self","grammar"] (ak gB):=by walk_at "c"
theorem zA{f:Addr}(F:cu K "__init__" "TreeRows.__init__" gB f fd)(nb:NB mg):↑aT 1 f fd ["self","grammar"] (fM K):=by
 have sc:=xX;walk_at "f"
 ·obtain⟨a,C,k,g,rfl,O,B,⟨M,L,J⟩,q⟩:=h
  refine⟨_,(af (dm (al 0) (al 1) rfl)
   (af (dm (al 0) xk rfl)
   (ai (dm (al 0) xk rfl)))),?_⟩
  symm;refine⟨C,k,_,O,B,M,by simp,h1 _ _ ?_⟩;clear h1;have n:bU a H (aA H a (.ins C k [("grammar",.ref g)])):=(bU.of (aD.refl _)).put;have v:aA H a (.ins C k [("grammar",.ref g)]) a=some (.ins C k [("grammar",.ref g)]):=ad;change yi _ _ _ _ (aA H a (.ins C k [("grammar",.ref g)]));generalize aA H a (.ins C k [("grammar",.ref g)])=H2 at n v ⊢;symm;intro b j;have o:b≠a:=λe=>by rw[e,v]at j;cases j
  have I:¬ (("grammar":Str)="steps"):=by decide +kernel
  have U:cO "steps" (V.ref b) [(("grammar":Str),V.ref g)]=[(("grammar":Str),V.ref g),(("steps":Str),V.ref b)]:=by simp only[cO,q06 I]
  refine⟨C,k,_,ae j _ _ v,B,L,by simp,?_⟩;rw[U];refine h1 _ _ ?_;clear h1;have S:H b=none:=by
   cases e:H b with
   |none=>rfl
   |some u=>rw[n _ _ o e]at j;cases j
  have m:bU a H (aA (aA H2 b (.dT [])) a (.ins C k [("grammar",.ref g),("steps",.ref b)])):=(n.then (ae j)).put;have r:aA (aA H2 b (.dT [])) a (.ins C k [("grammar",.ref g),("steps",.ref b)]) a=some (.ins C k [("grammar",.ref g),("steps",.ref b)]):=ad;have p:aA (aA H2 b (.dT [])) a (.ins C k [("grammar",.ref g),("steps",.ref b)]) b=some (.dT []):=by rw[ao o,ad]
  generalize aA (aA H2 b (.dT [])) a (.ins C k [("grammar",.ref g),("steps",.ref b)])=H3 at m r p ⊢;ext;intro x c;have l:x≠a:=λe=>by rw[e,r]at c;cases c
  have y:b≠x:=λe=>by rw[<- e,p]at c;cases c
  have G:¬ (("grammar":Str)="totals"):=by decide +kernel
  have D:¬ (("steps":Str)="totals"):=by decide +kernel
  have T:cO "totals" (V.ref x) [(("grammar":Str),V.ref g),(("steps":Str),V.ref b)]=HY g b x:=by unfold HY;simp only[cO,q06 G,q06 D]
  refine⟨C,k,_,ae c _ _ r,B,J,by simp,?_⟩;rw[T];have R:H x=none:=by
   cases e:H x with
   |none=>rfl
   |some u=>rw[m _ _ l e]at c;cases c
  exact q b x _ S R y ad (by rw[ao o,ao y];exact p) (by rw[ao l,ad]) ((m.then (ae c)).put)
theorem xN(f:TR->Nat)(ps:List TR)(p:TR):aZ f (ps++[p])=aZ f ps*f p:=by
 unfold aZ;rw[List.foldl_append];rfl
abbrev bv:Stmt:=fz 41 4
theorem k6:ay ["self","rows","many","row"] ["self","rows"] (ak bv):=by walk_at "c"
theorem gg{f CT CN_:Addr}{n:Nat}(F:cu K "many_together" "TreeRows.many_together" bv f fd)(nb:NB mg)(yae:b0 P w K mg base (bN P w) (4*n+4) CT "many_in" ["self","row"] (bz R CG CT CN_ n)) :
  aT P w K mg base (bN P w) (4*n+5) f fd ["self","rows"] (cG R CG CT n):=by
 have sc:=k6;walk_at "x"
 ·obtain⟨a,S,g,dg,D,C,l,U,G,as,b,m,ps,rfl,_⟩:=h;rfl
 ·obtain⟨a,S,g,dg,D,C,l,U,G,as,b,m,ps,rfl,o,⟨bs,Y,O,M⟩,Z,h2,h7,q⟩:=h
  have hu:=hr.units;refine⟨_,(af (q01 2 sc.nd ah)
   (af (bD PassesOwn.leaving rfl (cv (al 1)) (q02 3 sc.nd)
   (ai (bp (aE (bg.m0 ia) (al 2) ah (aI _))
   (ai (q01 2 sc.nd (au (bg.m1 fW) (al 2) (bP yae (hr.mono ⋯) (bh λ_ _ _ h=>h) (al 0) (aa (al 3) ac)))))
   aK)))
   (ai (aF (al 2))))),?_⟩
  symm;refine h1 _ _ ?_;grind;refine⟨⟨_,aO.of Y⟩,?_⟩;refine cM (xs:=bs.map V.ref) (λi σ p=>bZ D C H p/\i<=bs.length/\d8 G b m p D C/\∃x,σ=[some (V.ref a),some (V.ref l),some (V.int (aZ (CN b) (ps.take i):Nat)),x]) ⟨λ_ _ _ _ e=>e,Mz _,o.mm,_,rfl⟩ (λi σ p _ h=>aO.of ((o.kp h.1).lst Y)) ?_ ?_
  ·rintro i x σ p J ⟨sd,hi,mm,y,rfl⟩
   have k:i<bs.length:=by have:=(L'.mp J).1;rwa [Mb]at this
   rw[Md,L_ k]at J;cases J;have v:ps[i]?=some (ps[i]'⋯):=L_ ⋯;have hb:=M i bs[i] _ (L_ k) v;obtain⟨T,n0,pn⟩:=Z _ (Mi (show i<ps.length by omega));have u:aZ (CN b) (ps.take (i+1))=aZ (CN b) (ps.take i)*CN b (ps[i]'⋯):=by rw[q0E,v];exact xN _ _ _
   have r:=o.next sd mm;ext
   by_cases h0:0<aZ (CN b) (ps.take i)
   ·rw[q07 ⋯]
    refine⟨S,_,r.at_,rfl,a,S,g,dg,D,C,bs[i],U,G,as,b,m,_,rfl,r,(o.kp sd).tup hb,.inl ⟨T,n0,pn,λH2 s2 I=>⟨_,rfl,?_,sd.trans s2,k,I,?_⟩⟩⟩
    ·have L:i=0\/i=1:=by omega
     rcases L with rfl | rfl
     ·left;simp[aZ]
     ·obtain⟨j,c,rfl⟩:∃j c,ps=[j,c]:=by
       match ps,h2,(show 1<ps.length by omega) with
       | [j,c],_,_=>exact⟨j,c,rfl⟩
      have B:=(Z j q0B).1;rcases h7 j c rfl with h | h
      ·left
       have:=o.sm j B.rm B.cm h;have e1:aZ (CN b) (List.take 1 [j,c])=CN b j:=by show 1*CN b j=_;rw[Nat.one_mul]
       rw[e1];omega
      ·right
       have:CN b c<2 ^ 64:=o.sm c T.rm T.cm h;show _<((CN b c:Nat):Int)/\((CN b c:Nat):Int)<_;omega
    ·rw[u];push_cast;rfl
   ·rw[q06 ⋯]
    refine⟨sd,k,mm,?_⟩;rw[u,show aZ (CN b) (ps.take i)=0 by omega,Nat.zero_mul]
  ·rintro σ p ⟨sd,_,mm,y,rfl⟩
   refine h1 _ _ ?_;ext;rw[Mb,O,MM];exact q p sd mm
abbrev ce:Stmt:=fz 41 3
theorem qp:ay ["self","row","numbers","size","steps","number","rows","many"] ["self","row"] (ak ce):=by walk_at "c"
theorem jJ{f CT yaa:Addr}{n:Nat}{t1:Tok}(F:cu K "reckoned" "TreeRows.reckoned" ce f fd)(nb:NB mg)(yah:mg "MOST"=some (.int 6 t1))(ct:fQ K CT)(nt:aq K CT "grammar"/\aq K CT "steps"/\aq K CT "totals")
  (yai:↑dO 1 "fewest" ["size"] (iI K)) (yao:b0 P w K mg base (bN P w) 1 CG "numbers_of" ["self","name"] (cr R CG yaa)) (yad:↑b0 1 CG "rule" ["self","k"] (b8 R CG)) (yan:↑pG 3 "part_rows" (lT R))
  (ycz:b0 P w K mg base (bN P w) (4*n+5) CT "many_together" ["self","rows"] (cG R CG CT n)) :
  aT P w K mg base (bN P w) (4*n+6) f fd ["self","row"] (fh R CG CT yaa (n+1)):=by
 have sc:=qp;walk_at "x"
 ·obtain⟨a,dx,g,dg,d1,d2,b,sg,st,as,k,m,p,rfl,_⟩:=h;rfl
 ·obtain⟨a,dx,g,dg,d1,d2,b,sg,st,as,k,m,p,rfl,D,hb,cs⟩:=h
  have hu:=hr.units;refine⟨_,(af (q01 2 sc.nd (bP yao (hr.mono ⋯) (bh λ_ _ _ h=>h) (bM (al 0) rfl) (aa e⁻¹ ac)))
   (af (q01 3 sc.nd (cX Ay (al 1) (dN ah) (dN ah)))
   (af (bp (PW.pt (lK (aE (bg.m0 ia) (aC (BU rfl) rfl nb.max HG (aa (al 3) ac)) (dX (v:=.int 6) rfl yah ⟨_,rfl⟩) (aI _)) (iq (aE (bg.m0 rF) e⁻¹ (aJ (CX:=bN P w) yai.lift (hr.mono ⋯) rfl bq (aa (al 3) ac)) (aI _)))))
   (ai (aF (bA ac)))
   aK)
   (af (q01 4 sc.nd (bA ac))
   (af (bD PassesOwn.leaving rfl (cv (al 2)) (q02 5 sc.nd)
   (ai (bD PassesOwn.leaving rfl (cv (Ae yan (hr.mono ⋯) aW (bP yad (hr.mono ⋯) aW (bM (al 0) rfl) (aa (al 5) ac)) (aa e⁻¹ (aa e⁻¹ (aa e⁻¹ ac))))) (q02 6 sc.nd)
   (af (q01 7 sc.nd (bP ycz (hr.mono ⋯) (bh λ_ _ _ h=>h) (al 0) (aa (al 6) ac)))
   (ai (bp (aE (bg.m0 ia) (al 7) ah (aI _))
   (ai (br (q03 (al 4) (aa (aN (aa (al 5) (aa (al 6) (aa (al 7) ac)))) ac))))
   aK))))))
   (ai (aF (al 4)))))))),?_⟩
  symm;obtain⟨lk,pn_,tt,h9,_⟩:=id D.gr;refine⟨CT,dx,_,D.at_,ct.cl,nt.1,_,rfl,g,rfl,dg,_,h9,rfl,_,aS.of hb,_,rfl,g,dg,sg,st,as,k,tx p.1,rfl,D.gr,?_,?_⟩
  rotate_left
  ·intro a1
   rcases cs with⟨dp,_⟩ | ⟨_,nn,ex⟩
   ·obtain⟨y,hy,e⟩:=MR.mp dp.nm
    rw[<- e,(Aq hy).1]at a1;cases a1
   ·exact ex
  intro ns c6 l1 H1 hl1 f5 s1;rcases cs with⟨dp,_,pn,q⟩ | ⟨_,nn,ex⟩
  rotate_left
  ·rw[pf nn]at c6
   cases c6
  obtain⟨y,hy,ey⟩:=MR.mp dp.nm;have e5:ns=bQ (tx p.1) k:=by
   have:=(Aq hy).1;rw[ey,c6]at this;exact q0Q this
  subst e5;have h8:∀i∈bQ (tx p.1) k,_:=λi hi=>fD hi;have hixl:=ul (tx p.1) k;have m6:=D.m6;have a4:=dp.r1;have drm:=dp.rm;have a5:=dp.c1;have dcm:=dp.cm;have dk:=dp.k16;refine h1 _ _ ?_;grind;refine⟨_,aS.of (s1 _ _ hb),λps H2 G s2=>h1 _ _ ?_⟩;clear h1;have G:aS K H2 ps [V.int (p.2.1:Int),V.int (p.2.2.1:Int)]:=G;have S:=s1.trans s2;symm;refine⟨_,_,G,?_⟩;rw[q06 (by split<;>omega)];refine⟨_,aS.of (S _ _ hb),_,rfl,ps,p.2.1,p.2.2.1,rfl,G,⋯,⋯,_,rfl,_,rfl,?_⟩
  by_cases O:p.2.2.2<fw p.2.1 p.2.2.1
  ·rw[q07 O]
   exact⟨Mz _,λl hl=>q l _ (bZ.of (S.trans (ae hl))) (D.up (S.trans (ae hl))).mm (by unfold aY;rw[q07 O];exact cB.nil (S.free hl) ad)⟩
  rw[q06 O];refine h1 _ _ ?_;clear h1;have k1:1<=p.2.2.2:=by have:=cq a4 a5;omega
  symm;refine⟨Mz _,λC a3=>h1 _ _ ?_⟩;clear h1;have f6:H C=none:=S.free a3;have g2:l1≠C:=λe=>by rw[<- e,s2 _ _ f5]at a3;cases a3
  have b2:=S.trans (ae (o:=.lst []) a3);have e3:aA H2 C (.lst []) C=some (.lst []):=ad;have d4:=ae (o:=.lst []) a3 _ _ (s2 _ _ f5);generalize aA H2 C (.lst [])=H3 at b2 e3 d4 ⊢;have g8:aY k p=(bQ (tx p.1) k).flatMap (cQ k p):=by unfold aY;rw[q06 O]
  symm;refine⟨⟨_,aO.of d4⟩,?_⟩;refine cM (xs:=xQ (bQ (tx p.1) k)) (λi σ H'=>bZ d1 d2 H H'/\i<=(bQ (tx p.1) k).length/\d8 st k m H' d1 d2/\H' l1=some (.lst (xQ (bQ (tx p.1) k)))/\cB H H' C (((bQ (tx p.1) k).take i).flatMap (cQ k p))/\∃x y z,σ=[some (V.ref a),some (V.ref b),some (V.ref l1),some (V.ref ps),some (V.ref C),x,y,z]) ⟨.of b2,Mz _,(D.up b2).mm,d4,cB.nil f6 e3,_,_,_,rfl⟩ (λi σ H' _ h=>aO.of h.2.2.2.1) ?_ ?_
  ·rintro i x σ H4 hx ⟨sd,hi,mm,i2,T,x1,y1,z1,rfl⟩
   have U:i<(bQ (tx p.1) k).length:=by have:=(L'.mp hx).1;rw[xQ,Mb]at this;exact this
   rw[xQ,Md,L_ U]at hx;cases hx;obtain⟨qr,a0,hqn⟩:=h8 _ (Mi U);have b4:((bQ (tx p.1) k).take (i+1)).flatMap (cQ k p)=((bQ (tx p.1) k).take i).flatMap (cQ k p)++cQ k p ((bQ (tx p.1) k)[i]'U):=by
    rw[q0E,L_ U,List.flatMap_append];simp
   have e7:(((bQ (tx p.1) k).take i).flatMap (cQ k p)).length<=75*i:=by
    rw[kg];refine MG (m7 _ 75 _ λj hj=>?_) (by rw[MN];omega);obtain⟨qj,d9,_⟩:=fD (q0G hj);obtain⟨j4,jc,_⟩:=D.gc qj (Me d9);unfold cQ;rw[d9];exact MG (List.length_filterMap_le _ _) (i6 j4 jc a4 a5 ⋯ ⋯ dk)
   generalize((bQ (tx p.1) k).take i).flatMap (cQ k p)=ms at T b4 e7;generalize(bQ (tx p.1) k)[i]'U=num at a0 b4;have a6:=D.next sd mm;obtain⟨lk4,pn4,tt4,i0,hk4,f4,_⟩:=id a6.gr;have e8:num<as.length:=by rw[f4.1];exact(L'.mp a0).1
   have c3:qr∈k:=Me a0;obtain⟨q4,qc,f7⟩:=D.gc qr c3;have h2:=f4.2 num _ qr (L_ e8) a0;have i1:=(D.kp sd).tup hb;ext;refine⟨CT,dx,_,a6.at_,ct.cl,nt.1,_,rfl,g,rfl,dg,_,i0,rfl,g,dg,sg,st,as,k,num,as[num],rfl,a6.gr,L_ e8,?_⟩;refine FZ i1 q4 h2 a4 ⋯ a5 ⋯ dk k1 qc f7 (D.gt qr c3) λl2 H5 h6 f0 s5=>?_;have f3:cQ k p num=(cE qr p.2.1 p.2.2.1 p.2.2.2).filterMap λps=>if 0<aZ (CN k) ps then some (num,ps,aZ (CN k) ps) else none:=by unfold cQ;rw[a0]
   have e0:=i6 q4 qc a4 a5 (by omega:p.2.1<=6) (by omega:p.2.2.1<=6) dk;have e4:∀ps∈cE qr p.2.1 p.2.2.1 p.2.2.2,(∀p'∈ps,pW st k m p'/\0<n/\p'.2.2.2<(n:Int))/\ps.length<=2/\∀p1 p2,ps=[p1,p2]->p1.2.2.2<=7\/p2.2.2.2<=7:=λps G=>by
    refine⟨λp' h4=>?_,?_⟩
    ·obtain⟨d',lt'⟩:=dp.part D.gc c3 k1 G h4
     exact⟨d',by push_cast at pn;omega,by push_cast at pn;omega⟩
    ·rcases dl q4 a4 a5 G with rfl | ⟨p',rfl,_⟩ | ⟨_,z,f,sz,f1,f2,rfl⟩
     ·exact⟨by simp,λp1 p2 e=>by cases e⟩
     ·exact⟨by simp,λp1 p2 e=>by cases e⟩
     ·refine⟨by simp,λp1 p2 e=>?_⟩
      cases e;show f<=7\/p.2.2.2-qr.2.c-f<=7;omega
   have e9:=f0;change fR H4 H5 l2 (cE qr p.2.1 p.2.2.1 p.2.2.2) at e9;clear f0;obtain⟨r,d6,d7,c0⟩:=e9;generalize cE qr p.2.1 p.2.2.1 p.2.2.2=pss at f3 e0 e4 d7 c0;have a2:∃xs,H4 C=some (.lst xs):=let ⟨_,ts,h,_⟩:=T;⟨_,h⟩
   have g1:l2≠C:=λe=>by obtain⟨xs,h⟩:=a2;rw[<- e,h6]at h;cases h
   refine⟨l2,rfl,⟨_,aO.of d6⟩,?_⟩;refine cM (xs:=r.map V.ref) (λj σ H'=>bZ d1 d2 H H'/\j<=r.length/\d8 st k m H' d1 d2/\H' l1=some (.lst (xQ (bQ (tx p.1) k)))/\H' l2=some (.lst (r.map V.ref))/\(∀(i:Nat) a ps,r[i]?=some a->pss[i]?=some ps->p_ H' a ps)/\cB H H' C (ms++(pss.take j).filterMap λps=>if 0<aZ (CN k) ps then some (num,ps,aZ (CN k) ps) else none)/\∃y z,σ=[some (V.ref a),some (V.ref b),some (V.ref l1),some (V.ref ps),some (V.ref C),some (V.int (num:Int)),y,z]) ⟨sd.trans (.of s5),Mz _,(a6.up s5).mm,s5 _ _ i2,d6,λi a ps e1 e2=>(c0 i a ps e1 e2).2,by rw[M3];simpa using T.kp (.of s5),_,_,rfl⟩ (λj σ H' _ h=>aO.of h.2.2.2.2.1) ?_ ?_
   ·rintro j x σ H6 hx ⟨Y,hj,b3,a8,c2,M,J,y2,z2,rfl⟩
    have B:j<r.length:=by have:=(L'.mp hx).1;rwa [Mb]at this
    rw[Md,L_ B]at hx;cases hx;have c4:pss[j]?=some (pss[j]'⋯):=L_ ⋯;have d3:=M j _ _ (L_ B) c4;obtain⟨g0,f9,f8⟩:=e4 _ (Mi (show j<pss.length by omega));have e6:=λi a ps e1 e2=>(c0 i a ps e1 e2).1;have a9:=D.next Y b3;have hfl:((pss.take j).filterMap λps=>if 0<aZ (CN k) ps then some (num,ps,aZ (CN k) ps) else none).length<=j:=MG (List.length_filterMap_le _ _) (by rw[MN];omega);have L:((pss.take (j+1)).filterMap λps=>if 0<aZ (CN k) ps then some (num,ps,aZ (CN k) ps) else none)=((pss.take j).filterMap λps=>if 0<aZ (CN k) ps then some (num,ps,aZ (CN k) ps) else none)++(if 0<aZ (CN k) (pss[j]'⋯) then[(num,pss[j]'⋯,aZ (CN k) (pss[j]'⋯))] else[]):=by
     rw[q0E,c4,List.filterMap_append]
     congr 1
     show List.filterMap _ [_]=_
     by_cases h0:0<aZ (CN k) (pss[j]'⋯)<;>simp[h0]
    symm;refine⟨dx,_,a9.at_,rfl,a,dx,g,dg,d1,d2,_,sg,st,as,k,m,_,rfl,a9,d3,g0,f9,f8,λH7 b1 d5=>h1 _ _ ?_⟩;clear h1;generalize hmany:aZ (CN k) (pss[j]'⋯)=many at L;generalize hpsj:pss[j]'⋯=psj at L d3;have u:=a9.kp b1;have I:=J.kp u;ext
    by_cases h0:0<many
    ·rw[q07 ⋯]
     obtain⟨xs7,Z⟩:∃xs,H7 C=some (.lst xs):=let ⟨_,ts,h,_⟩:=I;⟨_,h⟩
     have g6:=I.len Z;have n24:=D.n24;refine⟨.inl ⟨rfl,_,aO.of Z⟩,am nofun,λp1 h3=>?_⟩;have t1:=ae (o:=.tup [V.int (num:Int),V.ref r[j],V.int (many:Int)]) h3;have e1:aA H7 p1 (.tup [V.int (num:Int),V.ref r[j],V.int (many:Int)]) p1=some (.tup [V.int (num:Int),V.ref r[j],V.int (many:Int)]):=ad;generalize aA H7 p1 (.tup [V.int (num:Int),V.ref r[j],V.int (many:Int)])=H8 at t1 e1 ⊢;have a7:=t1 _ _ Z;obtain⟨m1,m2,d0,c9,h5,g7⟩:=d5;have g4:d1≠C:=λe=>by rw[e,Z]at d0;cases d0
     have g3:d2≠C:=λe=>by rw[e,Z]at c9;cases c9
     have hz:=(e6 j _ _ (L_ B) c4);have g5:r[j]≠C:=λe=>by
      obtain⟨xs,h⟩:=a2;rw[e,h]at hz;cases hz.1
     refine⟨_,a7,by rw[g6,Mx];exact bf ⋯,?_,B,⟨m1,m2,by rw[ao g4];exact t1 _ _ d0,by rw[ao g3];exact t1 _ _ c9,h5,(g7.kp (.of t1)).kz (wl.put a7)⟩,by rw[ao g2];exact t1 _ _ (u.lst a8),by rw[ao g1];exact t1 _ _ (u.lst c2),λi a ps x1 x2=>(((M i a ps x1 x2).kp u).up t1).put ?_ ⟨_,a7⟩,?_⟩
     ·intro x o n1 n2 e
      rw[ao (λz=>by rw[z,f6]at e;cases e)];exact t1 _ _ (b1 x o n1 n2 (Y x o n1 n2 e))
     ·intro z
      have hz:=(e6 i a ps x1 x2).1;obtain⟨xs,h⟩:=a2;rw[z,h]at hz;cases hz
     ·rw[L,q07 h0,<- MK]
      exact(I.kp (.of t1)).app (x:=(num,psj,many)) a7 e1 ((d3.kp u).up t1) ⟨D.fresh sd mm hz.1,g5⟩
    ·rw[q06 ⋯]
     refine⟨Y.trans b1,B,d5,u.lst a8,u.lst c2,λi a ps x1 x2=>(M i a ps x1 x2).kp u,?_⟩;rw[L,q06 h0,MJ];exact I
   ·rintro σ H6 ⟨Y,_,b3,a8,c2,M,J,y2,z2,rfl⟩
    refine⟨Y,U,b3,a8,?_,_,_,_,rfl⟩;rw[Mb,d7,MM]at J;rw[b4,f3];exact J
  ·rintro σ H4 ⟨sd,_,mm,_,T,x1,y1,z1,rfl⟩
   refine h1 _ _ ?_;ext;have h7:(xQ (bQ (tx p.1) k)).length=(bQ (tx p.1) k).length:=by rw[xQ,Mb]
   rw[h7,MM,<- g8]at T;exact q C H4 sd mm T
theorem BM{z:Str}{k:List c8}(h:(Sum.inr z::k)∈B9 zs):z∈zs:=by
 unfold B9 at h;obtain⟨y,a,h⟩:=List.mem_flatMap.mp h;obtain⟨r,_,h⟩:=List.mem_flatMap.mp h;obtain⟨c,_,h⟩:=List.mem_flatMap.mp h;obtain⟨j,_,e⟩:=MR.mp h;have:=(List.cons.inj e).1;cases this;exact a
theorem rj.bad{st:M8}{m1:List (List c8×V)}{p:TR}(h:rj st rs m m1 m2)(hn:tx p.1∉(bo (tx st) rs).map (·.1)):cn m1 (dA p)=none:=by
 cases e:cn m1 (dA p) with
 |none=>rfl
 |some v=>exact q0O (BM (h.k1 _ (Gs e))) hn
theorem kM{kvs:List (List c8×V)}(hn:(kvs.map (·.1)).Nodup):((cF kvs k v).map (·.1)).Nodup/\∀x,x∈(cF kvs k v).map (·.1)->x=k\/x∈kvs.map (·.1):=by
 cases e:cn kvs k with
 |none=>exact⟨Fw v hn e,λx b=>by
   rw[rB v e,Mn,Mo]at b;rcases b with h | h
   ·exact .inr h
   ·exact .inl (by simpa using h)⟩
 |some u=>
  have g:(cF kvs k v).map (·.1)=kvs.map (·.1):=by
   unfold cF;have c:(kvs.any λa=>decide (a.1=k))=true:=by rw[fT,e];rfl
   rw[q07 c,Mp];refine q0I λa _=>?_;show(if a.1=k then(a.1,v) else a).1=a.1
   split<;>rfl
  rw[g];exact⟨hn,λx b=>.inr b⟩
theorem rj.put{st:M8}{rs:Yaa}{m1:List (List c8×V)}{p:TR}{v:V}(h:rj st rs m m1 m2)(d:pW st rs m p)(h6:m<=6):rj st rs m (cF m1 (dA p) v) (cF m2 (dA p) (.int (CN rs p:Nat))):=by
 have g:=Dk d h6;refine⟨(kM h.n1).1,(kM h.n2).1,λk b=>?_,λk b=>?_,λc a=>?_⟩
 ·rcases(kM h.n1).2 k b with e | e
  ·rw[e];exact g
  ·exact h.k1 k e
 ·rcases(kM h.n2).2 k b with e | e
  ·rw[e];exact g
  ·exact h.k2 k e
 ·rw[m_]at a ⊢
  by_cases e:dA c=dA p
  ·rw[q07 e,w8 e]
  ·rw[q06 e]at a ⊢
   exact h.ok c a
theorem wM:∀ms:List Nat,(ms.map fun(x:Nat)=>(x:Int)).sum=((ms.sum:Nat):Int)
 | []=>rfl
 |x::ms=>by rw[MF,List.sum_cons,List.sum_cons,wM ms];push_cast;rfl
abbrev b_:Stmt:=fz 41 2
theorem rT:ay ["self","row","steps"] ["self","row"] (ak b_):=by walk_at "c"
theorem jQ{f CT yaa:Addr}{n:Nat}(F:cu K "steps_of" "TreeRows.steps_of" b_ f fd)(nb:NB mg)(yak:mg "sum"=none)(ct:fQ K CT)(nt:aq K CT "grammar"/\aq K CT "steps"/\aq K CT "totals")
  (ycS:b0 P w K mg base (bN P w) (4*n+6) CT "reckoned" ["self","row"] (fh R CG CT yaa (n+1))) :
  aT P w K mg base (bN P w) (4*n+7) f fd ["self","row"] (bS R CG CT yaa (n+1)):=by
 have sc:=rT;walk_at "x"
 ·obtain⟨a,dx,g,dg,u,C,b,sg,st,as,j,m,p,rfl,_⟩:=h;rfl
 ·obtain⟨a,dx,g,dg,u,C,b,sg,st,as,j,m,p,rfl,c,hb,cs⟩:=h
  have hu:=hr.units;refine⟨_,(af (bp (EK (tT (MP (MT (by decide:1<=64) _) hu) (al 1) (bM (al 0) rfl)) (by with_unfolding_all rfl))
   (af (q01 2 sc.nd (bP ycS (hr.mono ⋯) (bh λ_ _ _ h=>h) (al 0) (aa (al 1) ac)))
   (af (GR (zY (MP (MT (by decide:1<=64) _) hu) (bM (al 0) rfl) (al 1) (al 2) rfl))
   (ai (zY (MP (MT (by decide:1<=64) _) hu) (bM (al 0) rfl) (al 1) (aC (kP rfl) rfl yak uG (aa (cH ["number","rows","many"] [] rfl (bI.of i⁻¹) i⁻¹ (cv (al 2))
    (λ_ _ _ _=>(pU (K:=K) (n:=3) rfl rfl (aM (ax (i:=0) (by show(["number","rows","many"]:List Str).Nodup;decide +kernel) rfl (Or.inl rfl)) (aM (ax (i:=1) (by show(["number","rows","many"]:List Str).Nodup;decide +kernel) rfl (Or.inl rfl)) (aM (ax (i:=2) (by show(["number","rows","many"]:List Str).Nodup;decide +kernel) rfl (Or.inl rfl)) cz))))) (λ_ _ _ _=>bW) (λ_ _ _ _=>(al 2))) ac)) rfl))))
   aK)
   (ai (aF (vo (MP (MT (by decide:1<=64) _) hu) (bM (al 0) rfl) (al 1) (λ_ _=>rfl))))),?_⟩
  obtain⟨m1,m2,b4,a2,b2,e1⟩:=id c.mm;have a3:H b=some (.tup ((dA p).map kV)):=hb;refine aj λN1 h1=>?_;refine vm λtb1 tb2 e6 e5=>?_;ext;refine⟨CT,dx,_,c.at_,ct.cl,nt.2.1,_,rfl,u,rfl,cn m1 (dA p),pA.t b4 a3,?_⟩;have c4:∀J,(∃l,pA J u (V.ref b) (some (V.ref l))/\j6 J l (aY j p))->bZ u C H J->d8 st j m J u C->pW st j m p->(∃m2,J C=some (.dT m2)/\cn m2 (dA p)=some (.int (CN j p:Nat)))->∀x,N1 [some (V.ref a),some (V.ref b),x] J:=λJ ⟨l,hv,S⟩ sd mm T a2 x=>by
   refine h1 _ _ ?_;ext;refine⟨CT,dx,_,(c.kp sd).ins c.at_,ct.cl,nt.2.1,_,rfl,u,rfl,_,hv,?_⟩;rcases cs with⟨_,_,_,q⟩ | ⟨_,nn,_⟩
   ·exact q l J sd mm a2 S
   ·exact q0O T.nm nn
  cases hv:cn m1 (dA p) with
  |some v=>
   rw[q06 (by simp)];rw[e5];rcases cs with⟨T,n0,pn,q⟩ | ⟨_,nn,ex⟩
   ·ext
    obtain⟨l,rfl,S⟩:=e1 p v hv;refine c4 H ⟨l,by rw[<- hv];exact pA.t b4 a3,S⟩ (λ_ _ _ _ e=>e) c.mm T ⟨m2,a2,b2.ok p (by rw[hv];rfl)⟩ _
   ·rw[b2.bad nn]at hv;cases hv
  |none=>
   rw[q07 (by simp)];rw[e6];ac_nf;refine⟨dx,_,c.at_,rfl,a,dx,g,dg,u,C,b,sg,st,as,j,m,p,rfl,c,hb,?_⟩;rcases cs with⟨T,n0,pn,q⟩ | ⟨_,nn,ex⟩
   rotate_left
   ·exact .inr ⟨Nat.succ_pos _,nn,ex⟩
   refine .inl ⟨T,n0,pn,λl I a1 a5 e0=>h2 _ _ ?_⟩;clear h2;have c9:=c.next a1 a5;obtain⟨r,M,Z,b3,Y,b1⟩:=id a5;have d4:=c.kp a1;have e3:I b=some (.tup ((dA p).map kV)):=d4.tup hb;have c1:=Y.len c.nz;ac_nf;have a7:Kp I (aA I u (.dT (cF r (dA p) (V.ref l)))):=Kp.put Z;obtain⟨ls,c0,a0,S⟩:=(e0.kp a7).known;refine⟨CT,dx,_,c9.at_,ct.cl,nt.2.1,_,rfl,u,rfl,_,CJ.t Z e3 c1.1,ls,c0,λos=>h2 _ _ ?_⟩;clear h2;have S:=S os;have a6:wl I (cS (aA I u (.dT (cF r (dA p) (V.ref l)))) ls os):=a7.z.trans wl.frz;have a4:cS (aA I u (.dT (cF r (dA p) (V.ref l)))) ls os u=some (.dT (cF r (dA p) (V.ref l))):=gE ad (.inr λxs z=>by cases z);have G:cS (aA I u (.dT (cF r (dA p) (V.ref l)))) ls os C=some (.dT M):=gE (by rw[ao c.ne.symm];exact b3) (.inr λxs z=>by cases z);have L:bZ u C H (cS (aA I u (.dT (cF r (dA p) (V.ref l)))) ls os):=λx o n1 n2 e=>gE (by rw[ao n1];exact a1 x o n1 n2 e) (.inl λhx=>by rw[a0 x hx]at e;cases e);generalize cS (aA I u (.dT (cF r (dA p) (V.ref l)))) ls os=H2 at a6 a4 G L S ⊢;clear c0 a0;have c2:=(c.kp L).ins c.at_;have O:=(c.kp L).tup a3;obtain⟨U,o,a8,htl,d9⟩:=id S;have hsl:=n8 c.gc (T.row c.m6) c.n24;have a9:=n6 c.gc (T.row c.m6);ext;have d7:(U.zip (aY j p)).map (·.1)=U:=List.map_fst_zip ⋯;have d6:(U.zip (aY j p)).map (·.2)=aY j p:=List.map_snd_zip ⋯;have d5:(U.zip (aY j p)).map (λz=>V.ref z.1)=U.map V.ref:=by rw[<- q0P (List.map V.ref) d7,Mp];rfl
   refine⟨⟨_,.inl (.inr ⟨o,a8⟩)⟩,?_⟩;refine gR (as:=U.zip (aY j p)) (emb:=λz=>V.ref z.1) (f:=λz=>some (V.int (z.2.2.2:Nat))) (λσ=>∃x y z,σ=[x,y,z]) ⟨_,_,_,rfl⟩ (λJ s'=>.inl (.inr ⟨o,by rw[d5];exact s' _ _ a8⟩)) (by rw[q0L];omega) ?_ ?_
   ·rintro i z hz σ J N1' N0 ⟨x,y,w,rfl⟩ sm k1 k0
    have h1:U[i]?=some z.1/\(aY j p)[i]?=some z.2:=List.getElem?_zip_eq_some.mp hz;obtain⟨rl,e,_⟩:=d9 i z.1 z.2 h1.1 h1.2;ext;exact⟨_,aS.of (sm _ _ e),rfl,_,_,rfl,_,_,rfl,_,_,rfl,rfl,k1 _ _ _ rfl sm ⟨_,_,_,rfl⟩⟩
   intro H3 s3 lc e2;rw[mH];have c6:(U.zip (aY j p)).map (λz=>V.int (z.2.2.2:Nat))=(((aY j p).map λs=>s.2.2).map fun(x:Nat)=>(x:Int)).map V.int:=by
    conv=>rhs;rw[<- d6]
    rw[Mp,Mp,Mp];rfl
   rw[c6];generalize(aY j p).map (λs=>s.2.2)=ms at a9;have B:=s3.trans (ae (o:=.lst ((ms.map fun(x:Nat)=>(x:Int)).map V.int)) e2);have e4:aA H3 lc (.lst ((ms.map fun(x:Nat)=>(x:Int)).map V.int)) lc=some (.lst ((ms.map fun(x:Nat)=>(x:Int)).map V.int)):=ad;generalize aA H3 lc (.lst ((ms.map fun(x:Nat)=>(x:Int)).map V.int))=H4 at B e4 ⊢;refine⟨_,aO.of e4,CT,dx,_,B _ _ c2,ct.cl,nt.2.2,_,rfl,C,rfl,_,CJ.t (B _ _ G) (B _ _ O) c1.2,?_⟩;rw[wM,a9];have d0:b≠C:=λe=>by rw[e,G]at O;cases O
   have d3:wl I (aA H4 C (.dT (cF M (dA p) (V.int (CN j p:Nat))))):=(a6.trans (Kp.of B).z).trans (Kp.put (B _ _ G)).z;have c3:j6 (aA H4 C (.dT (cF M (dA p) (V.int (CN j p:Nat))))) l (aY j p):=(S.kz (Kp.of B).z).kz (Kp.put (B _ _ G)).z;refine c4 _ ⟨l,?_,c3⟩ ((L.trans (.of B)).trans .put2) ⟨_,_,?_,ad,Y.put (v:=V.ref l) T c.m6,?_⟩ T ⟨_,ad,by rw[m_,q07 rfl]⟩ _
   ·have:=pA.t (H:=aA H4 C (.dT (cF M (dA p) (V.int (CN j p:Nat))))) (a:=u) (b:=b) (kvs:=cF r (dA p) (V.ref l)) (k:=dA p) (by rw[ao c.ne];exact B _ _ a4) (by rw[ao d0];exact B _ _ O)
    rw[m_,q07 rfl]at this;exact this
   ·rw[ao c.ne];exact B _ _ a4
   ·intro p' v' D
    rw[m_]at D
    by_cases e:dA p'=dA p
    ·rw[q07 e]at D
     cases D;rw[w8 e];exact⟨l,rfl,c3⟩
    ·rw[q06 e]at D
     exact b1.kz d3 p' v' D
abbrev b9:Stmt:=fz 41 1
theorem lU:ay ["self","row"] ["self","row"] (ak b9):=by walk_at "c"
theorem sI{f CT yaa:Addr}{n:Nat}(F:cu K "many_in" "TreeRows.many_in" b9 f fd)(nb:NB mg)(ct:fQ K CT)(nt:aq K CT "grammar"/\aq K CT "steps"/\aq K CT "totals")
  (yaj:b0 P w K mg base (bN P w) (4*n+7) CT "steps_of" ["self","row"] (bS R CG CT yaa (n+1))) :
  aT P w K mg base (bN P w) (4*n+8) f fd ["self","row"] (bz R CG CT yaa (n+1)):=by
 have sc:=lU;walk_at "x"
 ·obtain⟨a,j,g,C,D,r,b,x,u,G,y,m,p,rfl,_⟩:=h;rfl
 ·obtain⟨a,j,g,C,D,r,b,x,u,G,y,m,p,rfl,e,B,U⟩:=h
  have O:=hr.units;refine⟨_,(af (br (bP yaj (hr.mono ⋯) (bh λ_ _ _ h=>h) (al 0) (aa (al 1) ac)))
   (ai (aF (vo (MP (MT (by decide:1<=64) _) O) (bM (al 0) rfl) (al 1) (λ_ _=>rfl))))),?_⟩
  symm;refine⟨j,_,e.at_,rfl,a,j,g,C,D,r,b,x,u,G,y,m,p,rfl,e,B,?_⟩;rcases U with⟨T,L,I,q⟩ | ⟨_,J,S⟩
  rotate_left
  ·exact .inr ⟨Nat.succ_pos _,J,S⟩
  refine .inl ⟨T,L,I,λv Y c l ⟨m2,o,M⟩ _=>h1 _ _ ?_⟩;ext;refine⟨CT,j,_,(e.kp c).ins e.at_,ct.cl,nt.2.2,_,rfl,r,rfl,_,?_,q Y c l⟩;have:=pA.t (k:=dA p) o ((e.kp c).tup B);rw[M]at this;exact this
theorem Ba{f CT yaa:Addr}(F:cu K "many_in" "TreeRows.many_in" b9 f fd):aT P w K mg base (bN P w) 4 f fd ["self","row"] (bz R CG CT yaa 0):=by
 have c:∀{vs:List V} {H:Hp} {Q:VK} {E:XK},¬ bz R CG CT yaa 0 vs H Q E:=λh=>by
  obtain⟨a,dx,g,dg,d1,d2,b,sg,st,as,rs,m,p,_,_,_,⟨_,e,_⟩ | ⟨e,_⟩⟩:=h<;>exact q0O e ⋯
 exact F.okX (k:=3) (sp:=bz R CG CT yaa 0) lU (λvs H Q E h=>q0O h c) (λcdv A outer s H vs Q E hr h=>q0O h c)
theorem kc{CT yaa:Addr}{fd1 fd2 fd3 fd4:Nd}{t1:Tok}(F1:cu K "many_in" "TreeRows.many_in" b9 f1 fd1)(F2:cu K "steps_of" "TreeRows.steps_of" b_ f2 fd2)(F3:cu K "reckoned" "TreeRows.reckoned" ce f3 fd3)(F4:cu K "many_together" "TreeRows.many_together" bv f4 fd4)
  (nb:NB mg) (yak:mg "sum"=none) (yah:mg "MOST"=some (.int 6 t1)) (ct:fQ K CT) (nt:aq K CT "grammar"/\aq K CT "steps"/\aq K CT "totals") (me1:cT K CT "many_in" f1) (me2:cT K CT "steps_of" f2) (me3:cT K CT "reckoned" f3) (me4:cT K CT "many_together" f4)
  (b1:bR K fd1 ["self","row"] []) (b2:bR K fd2 ["self","row"] []) (b3:bR K fd3 ["self","row"] []) (b4:bR K fd4 ["self","rows"] [])
  (yai:↑dO 1 "fewest" ["size"] (iI K)) (yao:b0 P w K mg base (bN P w) 1 CG "numbers_of" ["self","name"] (cr R CG yaa)) (yad:↑b0 1 CG "rule" ["self","k"] (b8 R CG)) (yan:↑pG 3 "part_rows" (lT R)) :
  ∀n,b0 P w K mg base (bN P w) (4*n+4) CT "many_in" ["self","row"] (bz R CG CT yaa n)
 |0=>⟨f1,fd1,Ba F1,ct.cl,me1,b1⟩
 |n+1=>by
  have ih:=kc F1 F2 F3 F4 nb yak yah ct nt me1 me2 me3 me4 b1 b2 b3 b4 yai yao yad yan n;have c4:b0 P w K mg base (bN P w) (4*n+5) CT "many_together" ["self","rows"] (cG R CG CT n):=⟨f4,fd4,gg F4 nb ih,ct.cl,me4,b4⟩;have c3:b0 P w K mg base (bN P w) (4*n+6) CT "reckoned" ["self","row"] (fh R CG CT yaa (n+1)):=⟨f3,fd3,jJ F3 nb yah ct nt yai yao yad yan c4,ct.cl,me3,b3⟩;have c2:b0 P w K mg base (bN P w) (4*n+7) CT "steps_of" ["self","row"] (bS R CG CT yaa (n+1)):=⟨f2,fd2,jQ F2 nb yak ct nt c3,ct.cl,me2,b2⟩;exact⟨f1,fd1,sI F1 nb ct nt c2,ct.cl,me1,b1⟩
abbrev io:Stmt:=gZ 43
structure q8(st:M8)(rs:Yaa)(m:Nat):Prop where
 gc:eC rs
 gt:∀q∈rs,0<=q.2.t
 sm:∀p:TR,p.2.1<=m->p.2.2.1<=m->p.2.2.2<=7->CN rs p<2 ^ 64
 m6:m<=6
 n24:rs.length<=24
 nz:(bo (tx st) rs).length<=100
inductive kl(R:RC)(CG CN_:Addr)(vs:List V)(H:Hp)(Q:VK)(E:XK):Prop
 |mk (g dg:Addr) (sg st:M8) (as:Nb) (rs:Yaa) (m:Nat) (p:TR) (_:vs=[.ref g,.str (tx p.1),.int (p.2.1:Int),.int (p.2.2.1:Int),.int p.2.2.2]) (_:dU R H CG dg g sg st as rs) (_:q8 st rs m) (_:((pW st rs m p/\∀H',aD H H'->Q (.int (CN rs p:Nat)) H')\/(tx p.1∉(bo (tx st) rs).map (·.1)/\∀H',aD H H'->E (.ref CN_) none H')))
theorem qF:ay ["grammar","name","rows","columns","cost"] ["grammar","name","rows","columns","cost"] (ak io):=by walk_at "c"
theorem rn{f CT yaa:Addr}(F:cu K "count_trees" "count_trees" io f fd)(nb:NB mg)(ct:fQ K CT)(nt:aq K CT "grammar"/\aq K CT "steps"/\aq K CT "totals")
  (yal:↑lu 1 "TreeRows" CT ["self","grammar"] (fM K)) (yae:b0 P w K mg base (bN P w) 72 CT "many_in" ["self","row"] (bz R CG CT yaa 17)) :
  aT P w K mg base (bN P w) 73 f fd ["grammar","name","rows","columns","cost"] (kl R CG yaa):=by
 have sc:=qF;walk_at "x"
 ·obtain⟨g,M,r,n,O,B,m,p,rfl,_⟩:=h;rfl
 ·obtain⟨g,M,r,n,O,B,m,p,rfl,gr,ok,cs⟩:=h
  have hu:=hr.units;refine⟨_,(ai (aF (bP yae b⁻¹ (bh λ_ _ _ h=>h) (gw yal b⁻¹ rfl aW (aa (al 0) ac)) (aa (aN (aa (al 1) (aa (al 2) (aa (al 3) (aa (al 4) ac))))) ac)))),?_⟩;ext;intro x j S G D;have a:aD H (aA (aA H j (.own x)) x (.ins CT j [])):=(ae G).trans (ae (by rw[ao (Ne.symm D)];exact S));refine⟨x,CT,j,g,rfl,ad,ct.cl,nt,λZ Y H2 f1 f2 C T L J sx=>⟨rfl,j,_,T,rfl,am nofun,λb hb=>?_⟩⟩;have s2:aD H H2:=λy u e=>sx y u (aG e S) (a y u e);have l:=ae (o:=.tup (ck p)) hb;have c:=s2.trans l;have te:gW R CG CT (aA H2 b (.tup (ck p))) x j g M Z Y r n O B m:=⟨l _ _ T,C,gr.up c,ok.gc,ok.gt,ok.sm,ok.m6,ok.n24,ok.nz,[],[],l _ _ L,l _ _ J,⟨List.nodup_nil,List.nodup_nil,(λk h=>nomatch h),(λk h=>nomatch h),(λp h=>by cases h)⟩,λp v h=>by cases h⟩;refine⟨x,j,g,M,Z,Y,b,r,n,O,B,m,p,rfl,te,ad,?_⟩;rcases cs with⟨U,q⟩ | ⟨nn,I⟩
  ·exact .inl ⟨U,nofun,by have:=U.k16;omega,λH4 sd mm=>q H4 λy u e=>sd y u (λz=>by rw[z,a.free f1]at e;cases e) (λz=>by rw[z,a.free f2]at e;cases e) (c y u e)⟩
  ·exact .inr ⟨nofun,nn,I _ c⟩
theorem yB{B:Nat}{f:TR->Nat}{q:Nat×RV}{r c:Nat}{k:Int}{ps:List TR}(h4:q.1<4)(hq:1<=q.2.c)(hr:1<=r)(hc:1<=c)(hk:1<=k)(h:ps∈cE q r c k)(hf:∀p∈ps,f p<=2 ^ (B*p.2.2.2.toNat)):aZ f ps<=2 ^ (B*(k-1).toNat):=by
 have mono:∀{a b:Nat},a<=b->2 ^ (B*a)<=2 ^ (B*b):=λh=>Nat.pow_le_pow_right nofun (Nat.mul_le_mul_left _ h);rcases dl h4 hr hc h with rfl | ⟨p,rfl,e1,e2,e3⟩ | ⟨_,z,x,sz,f1,f2,rfl⟩
 ·exact Nat.one_le_two_pow
 ·have h1:=hf p q0B
  show 1*f p<=_;rw[Nat.one_mul];exact MG h1 (mono ⋯)
 ·have g1:=cq sz.a sz.b
  have g2:=cq sz.d sz.e;have h1:=hf _ q0B;have h2:=hf _ (Mr _ q0B);show 1*f _*f _<=_;rw[Nat.one_mul];refine MG (Nat.mul_le_mul h1 h2) ?_;rw[<- Nat.pow_add,<- Nat.mul_add];exact mono (by show x.toNat+(k-q.2.c-x).toNat<=_;omega)
theorem wd(hg:eC rs){B L:Nat}{kx:Int}(hL:∀q∈rs,∀(r c:Nat) (k:Int),1<=r->r<=6->1<=c->c<=6->k<=kx->(cE q r c k).length<=L)(hB:rs.length*L<=2 ^ B):∀(f:Nat) (p:TR),p.2.1<=6->p.2.2.1<=6->p.2.2.2<=kx->cnt rs f p<=2 ^ (B*p.2.2.2.toNat)
 |0,_,_,_,_=>Mz _
 |f+1,p,hr6,hc6,hk=>by
  unfold cnt
  split
  ·exact Mz _
  ·rename_i hn
   have hr:1<=p.2.1:=by omega
   have b:1<=p.2.2.1:=by omega
   have u:1<=p.2.2.2:=by have:=cq hr b;omega
   refine MG (m7 _ (L*2 ^ (B*(p.2.2.2-1).toNat)) _ λq n=>?_) ?_
   ·obtain⟨m,l,_⟩:=hg q (jW n).1
    refine MG (m7 _ (2 ^ (B*(p.2.2.2-1).toNat)) _ λps a=>?_) ?_
    ·refine yB m l hr b u a λo j=>?_
     have g:=nh m l hr b a j;have:=g.rm;have:=g.cm;have:=g.lt;exact wd hg hL hB f o ⋯ ⋯ ⋯
    ·exact Nat.mul_le_mul (hL q (jW n).1 _ _ _ hr hr6 b hc6 hk) (My _)
   ·have v:(ju p.1 rs).length<=rs.length:=List.length_filter_le _ _
    refine MG (Nat.mul_le_mul v (My _)) ?_;rw[<- Nat.mul_assoc];have e:B*p.2.2.2.toNat=B+B*(p.2.2.2-1).toNat:=by
     rw[show p.2.2.2.toNat=1+(p.2.2.2-1).toNat by omega,Nat.mul_add,Nat.mul_one]
    rw[e,Nat.pow_add];exact Nat.mul_le_mul hB (My _)
theorem FS(hg:eC rs)(h24:rs.length<=24){p:TR}(hr:p.2.1<=6)(hc:p.2.2.1<=6)(hk:p.2.2.2<=16):CN rs p<=2 ^ 176:=by
 have:=wd (B:=11) (L:=75) (kx:=16) hg (λq a r c k e b j g hk=>i6 (hg q a).1 (hg q a).2.1 e j b g hk) (MG (Nat.mul_le_mul_right 75 h24) nofun) 17 p hr hc hk;exact MG this (Nat.pow_le_pow_right nofun ⋯)
theorem Fj{n:Nat}(h:n<=2 ^ 176):((n:Nat):Int).natAbs.log2<9000:=by
 rw[Int.natAbs_natCast]
 by_cases a:n=0
 ·subst a;decide
 ·exact(Nat.log2_lt a).mpr (MP h (Nat.pow_lt_pow_right nofun nofun))
inductive cg(R:RC)(CG CT CN_ CU_:Addr)(n:Nat)(vs:List V)(H:Hp)(Q:VK)(E:XK):Prop
 |mk (a dx g dg d1 d2 b:Addr) (sg st:M8) (as:Nb) (rs:Yaa) (m:Nat) (p:TR) (k:Int) (_:vs=[.ref a,.ref b,.int k]) (_:gW R CG CT H a dx g dg d1 d2 sg st as rs m) (_:H b=some (.tup (ck p))) (_:0<n) (_:((pW st rs m p/\p.2.2.2<(n:Int)/\(∀(j:Nat) t,k=(j:Int)->(RT rs p)[j]?=some t->∀v H',bZ d1 d2 H H'->d8 st rs m H' d1 d2->aU H' t.d v->Q v H')/\((k<0\/(CN rs p:Int)<=k)->∀H',bZ d1 d2 H H'->d8 st rs m H' d1 d2->E (.ref CU_) none H'))\/(tx p.1∉(bo (tx st) rs).map (·.1)/\E (.ref CN_) none H)))
inductive gI(R:RC)(CG CT:Addr)(n:Nat)(vs:List V)(H:Hp)(Q:VK)(_E:XK):Prop
 |mk (a dx g dg d1 d2 l:Addr) (sg st:M8) (as:Nb) (rs:Yaa) (m:Nat) (ps:List TR) (k:Nat) (ts:List bB) (_:vs=[.ref a,.ref l,.int (k:Int)]) (_:gW R CG CT H a dx g dg d1 d2 sg st as rs m) (_:HB H l ps) (_:(∀p∈ps,pW st rs m p/\p.2.2.2<(n:Int))) (_:ps.length<=2) (_:(ps≠[]->0<n)) (_:(bK (RT rs) ps)[k]?=some ts) (_:∀x vs H',bZ d1 d2 H H'->d8 st rs m H' d1 d2->H' x=some (.tup vs)->aL H' (ts.map bB.d) vs->Q (.ref x) H')
def Cc(rs:Yaa)(k:Nat)(ps:List TR)(i:Nat):Nat:=(ps.reverse.take i).foldl (λk p=>k/CN rs p) k
theorem Dq{ps:List TR}{i:Nat}{p:TR}(h:ps.reverse[i]?=some p):Cc rs k ps (i+1)=Cc rs k ps i/CN rs p:=by
 unfold Cc;rw[q0E,h,List.foldl_append];rfl
theorem rS(hg:eC rs){ps:List TR}{k:Nat}{ts:List bB}(ok:∀p∈ps,fm p)(h2:ps.length<=2)(h:(bK (RT rs) ps)[k]?=some ts) :
  ts.length=ps.length/\∀(i:Nat) p,ps.reverse[i]?=some p->∃t,ts.reverse[i]?=some t/\(RT rs p)[Cc rs k ps i%CN rs p]?=some t:=by
 match ps,h2,h,ok with
 | [],_,h,_=>
  have:k=0/\ts=[]:=by
   cases k with
   |zero=>exact⟨rfl,by simpa[bK]using h.symm⟩
   |succ k=>simp[bK]at h
  obtain⟨rfl,rfl⟩:=this;exact⟨rfl,λi p e=>by simp at e⟩
 | [p],_,h,ok=>
  rw[iQ]at h;obtain⟨t,l,rfl⟩:=MC.mp h;refine⟨rfl,λi a e=>?_⟩;have:i=0/\a=p:=by
   match i,e with
   |0,e=>exact⟨rfl,by simpa using e.symm⟩
   |i+1,e=>simp at e
  obtain⟨rfl,rfl⟩:=this;refine⟨t,rfl,?_⟩;show(RT rs a)[k%CN rs a]?=some t;rw[Nat.mod_eq_of_lt (by rw[<- cw hg (ok _ (by simp))];exact(L'.mp l).1)];exact l
 | [p1,p2],_,h,ok=>
  have l1:=cw hg (ok p1 (by simp));have j:=cw hg (ok p2 (by simp));have b:k<CN rs p1*CN rs p2:=by
   have:=(L'.mp h).1;rw[gC (g:=CN rs) λp o=>cw hg (ok p o)]at this
   simpa[aZ]using this
  have c:0<CN rs p2:=by
   rcases Nat.eq_zero_or_pos (CN rs p2) with e | e
   ·rw[e]at b;simp at b
   ·exact e
  have q:k/CN rs p2<CN rs p1:=Nat.div_lt_of_lt_mul (by rw[Nat.mul_comm];exact b);have hm:=Nat.mod_lt k c;obtain⟨t1,n⟩:∃t,(RT rs p1)[k/CN rs p2]?=some t:=⟨_,L_ ⋯⟩;obtain⟨t2,m⟩:∃t,(RT rs p2)[k%CN rs p2]?=some t:=⟨_,L_ ⋯⟩;have:=tZ (F:=RT rs) (p1:=p1) (p2:=p2) (k:=k) (t1:=t1) (t2:=t2) (by rw[j];exact n) (by rw[j];exact m);rw[this]at h;cases h;refine⟨rfl,λi a e=>?_⟩
  match i,e with
  |0,e=>
   have:a=p2:=by simpa using e.symm
   subst this;exact⟨t2,rfl,m⟩
  |1,e=>
   have:a=p1:=by simpa using e.symm
   subst this;refine⟨t1,rfl,?_⟩;show(RT rs a)[k/CN rs p2%CN rs a]?=some t1;rw[Nat.mod_eq_of_lt q];exact n
  |i+2,e=>simp at e
abbrev cC:Stmt:=fz 41 6
theorem qo:ay ["self","rows","k","trees","row","many"] ["self","rows","k"] (ak cC):=by walk_at "c"
theorem rZ{f CT yaa yac:Addr}{lv:Nat}(hlv:72<=lv)(F:cu K "trees_in" "TreeRows.trees_in" cC f fd)(nb:NB mg)
  (yae:b0 P w K mg base (bN P w) 72 CT "many_in" ["self","row"] (bz R CG CT yaa 17)) (yau:b0 P w K mg base (bN P w) lv CT "tree_in" ["self","row","k"] (cg R CG CT yaa yac n)) :
  aT P w K mg base (bN P w) (lv+1) f fd ["self","rows","k"] (gI R CG CT n):=by
 have sc:=qo;walk_at "x"
 ·obtain⟨a,dx,g,dg,d1,d2,l,sg,st,as,c,m,ps,k,ts,rfl,_⟩:=h;rfl
 ·obtain⟨a,dx,g,dg,d1,d2,l,sg,st,as,c,m,ps,k,ts,rfl,u,hl,Z,b4,hn,b1,q⟩:=h
  have hu:=hr.units;refine⟨_,(af (q01 3 sc.nd (aN ac))
   (af (bD PassesOwn.leaving rfl (zD rfl nb.reversed (aa (al 1) ac)) (q02 4 sc.nd)
   (af (q01 5 sc.nd (bP yae (hr.mono ⋯) (bh λ_ _ _ h=>h) (al 0) (aa (al 4) ac)))
   (af (q01 3 sc.nd (au dZ (aN (aa (bP yau (hr.mono ⋯) (bh λ_ _ _ h=>h) (al 0) (aa (al 4) (aa (au (bg.m1 bj) (al 2) (al 5)) ac))) ac)) (al 3)))
   (ai (q01 2 sc.nd (au (bg.m1 Ej) (al 2) (al 5)))))))
   (ai (aF (al 3))))),?_⟩
  symm;refine⟨Mz _,λx0 a8=>h1 _ _ ?_⟩;clear h1;have s1:=ae (o:=.tup []) a8;have e1:aA H x0 (.tup []) x0=some (.tup []):=ad;generalize aA H x0 (.tup [])=H1 at s1 e1 ⊢;symm;obtain⟨bs,o,B,a4,c4⟩:=id hl;obtain⟨b2,O⟩:=rS u.gc (λp hp=>((Z p hp).1.row u.m6)) b4 b1;refine⟨_,.inl (.inr ⟨o,s1 _ _ B⟩),?_⟩;refine EF (xs:=bs.map V.ref) (λi σ H'=>bZ d1 d2 H H'/\d8 st c m H' d1 d2/\i<=bs.length/\∃(x:Addr) (vs:List V) (y z:Option V),H' x=some (.tup vs)/\aL H' (((ts.reverse.take i).reverse).map bB.d) vs/\vs.length<=i/\σ=[some (V.ref a),some (V.ref l),some (V.int (Cc c k ps i:Nat)),some (V.ref x),y,z])
   ⟨.of s1,(u.up s1).mm,Mz _,x0,[],_,_,e1,by unfold aL;rfl,My _,rfl⟩ (λi σ H' _ h=>.inl (.inr ⟨o,h.1 _ _ (λz=>by obtain⟨m1,_,h1,_⟩:=u.mm;rw[z,h1]at B;cases B) (λz=>by obtain⟨_,m2,_,h2,_⟩:=u.mm;rw[z,h2]at B;cases B) B⟩)) ?_ ?_
  ·rintro i x σ H2 a2 hx ⟨sd,mm,hi,xt,vs,y,z,L,D,a9,rfl⟩
   have c2:i<bs.length:=by simpa using a2
   have M:bs.length-1-i<bs.length:=by omega
   rw[Mb,Md,L_ M]at hx;cases hx;obtain⟨p,G⟩:∃p,ps[bs.length-1-i]?=some p:=⟨_,L_ ⋯⟩;have hb:=c4 _ _ _ (L_ M) G;have a0:ps.reverse[i]?=some p:=by
    rw[List.getElem?_reverse ⋯,<- a4];exact G
   obtain⟨S,kn⟩:=Z _ (Me G);have c1:ps≠[]:=λe=>by rw[e]at G;simp at G
   obtain⟨t,b3,Y⟩:=O i _ a0;have c3:Cc c k ps (i+1)=Cc c k ps i/CN c p:=Dq a0;generalize bs[bs.length-1-i]'M=b at hb;have r:=u.next sd mm;have a5:=(u.kp sd).tup hb;have a3:=cw u.gc (S.row u.m6);have d0:0<CN c p:=by rw[<- a3];have:=(L'.mp Y).1;omega
   have c9:=FS u.gc u.n24 (p:=p) (by have:=S.rm;have:=u.m6;omega) (by have:=S.cm;have:=u.m6;omega) S.k16;ac_nf;refine⟨dx,_,r.at_,rfl,a,dx,g,dg,d1,d2,b,sg,st,as,c,m,p,rfl,r,a5,.inl ⟨S,nofun,by have:=S.k16;omega,λH3 J a7=>h2 _ _ ?_⟩⟩;clear h2;have I:=r.next J a7;have c6:=(r.kp J).tup a5;ac_nf;refine⟨dx,_,I.at_,rfl,⋯,a,dx,g,dg,d1,d2,b,sg,st,as,c,m,p,_,rfl,I,c6,hn c1,.inl ⟨S,kn,λj t' ej hj v H4 T a6 hv=>?_,λbad=>?_⟩⟩
   rotate_left
   ·exfalso
    have h1:(Cc c k ps i:Int)%(CN c p:Int)=((Cc c k ps i%CN c p:Nat):Int):=by push_cast;rfl
    have h2:=Nat.mod_lt (Cc c k ps i) d0;omega
   have d3:j=Cc c k ps i%CN c p:=by
    have h1:(Cc c k ps i:Int)%(CN c p:Int)=((Cc c k ps i%CN c p:Nat):Int):=by push_cast;rfl
    omega
   rw[d3,Y]at hj;cases hj;refine⟨am nofun,λp1 c0=>?_⟩;have s5:=ae (o:=.tup [v]) c0;have e5:aA H4 p1 (.tup [v]) p1=some (.tup [v]):=ad;generalize aA H4 p1 (.tup [v])=H5 at s5 e5 ⊢;have C:=(J.trans T).trans (.of s5);have U:=(r.kp C).tup L;refine iL e5 U (by simp) (by simp;omega) λp2 H6 a1 s6=>h2 _ _ ?_;clear h2;ext;refine⟨⟨⋯,Fj c9⟩,(sd.trans C).trans (.of s6),((I.next T a6).up (s5.trans s6)).mm,c2,p2,[v]++vs,a1,?_,by simp;omega,?_⟩
   ·have e8:(ts.reverse.take (i+1)).reverse=t::(ts.reverse.take i).reverse:=by rw[q0E,b3];simp
    rw[e8,MF];have tu:dH H2 H6:=λx xs e=>((r.kp C).trans (.of s6)).tup e;exact aL.cons (hv.up (dH.of (s5.trans s6)) _) (D.up tu _)
   ·exact⟨by rw[c3];push_cast;rfl,rfl⟩
  ·rintro σ H2 ⟨sd,mm,hi,xt,vs,y,z,L,D,a9,rfl⟩
   refine h1 _ _ ?_;ext;rw[Mb,a4,<- b2]at D;rw[<- Ms,MM,List.reverse_reverse]at D;exact q xt vs H2 sd mm L D
abbrev cA:Stmt:=fz 41 5
theorem lI:ay ["self","row","k","passed","number","rows","many"] ["self","row","k"] (ak cA):=by walk_at "c"
theorem sR{f CT yaa yac:Addr}{lv:Nat}(hlv:72<=lv)(F:cu K "tree_in" "TreeRows.tree_in" cA f fd)(nb:NB mg)(yaE:mg "NoNumber"=some (.ref yac))(yaD:XR K yac)
  (yaj:b0 P w K mg base (bN P w) 71 CT "steps_of" ["self","row"] (bS R CG CT yaa 17)) (ycl:b0 P w K mg base (bN P w) (lv+1) CT "trees_in" ["self","rows","k"] (gI R CG CT n)) :
  aT P w K mg base (bN P w) (lv+2) f fd ["self","row","k"] (cg R CG CT yaa yac (n+1)):=by
 have sc:=lI;walk_at "x"
 ·obtain⟨a,dx,g,dg,d1,d2,b,sg,st,as,D,m,p,k,rfl,_⟩:=h;rfl
 ·obtain⟨a,dx,g,dg,d1,d2,b,sg,st,as,D,m,p,k,rfl,c,hb,_,cs⟩:=h
  have hu:=hr.units;refine⟨_,(af (q01 3 sc.nd ah)
   (af (bD PassesOwn.leaving rfl (cv (bP yaj (hr.mono ⋯) (bh λ_ _ _ h=>h) (al 0) (aa (al 1) ac))) (fg (n:=3) rfl (aM (q02 4 sc.nd) (aM (q02 5 sc.nd) (aM (q02 6 sc.nd) cz))))
   (af (bp (xw (bg.m0 lQ) (bg.m0 rF) (al 3) (al 2) (au (bg.m0 bO) (al 3) (al 6)))
   (ai (aF (au dZ (aN (aa (al 4) ac)) (bP ycl (hr.mono ⋯) (bh λ_ _ _ h=>h) (al 0) (aa (al 5) (aa (au (bg.m0 fu) (al 2) (al 3)) ac))))))
   aK)
   (ai (q01 3 sc.nd (au (bg.m0 bO) (al 3) (al 6))))))
   (ai (dC yaD rfl rfl yaE (fo λ_ _ _ h=>h) (bH ac))))),?_⟩
  symm;refine h1 _ _ ?_;grind;refine⟨dx,_,c.at_,rfl,a,dx,g,dg,d1,d2,b,sg,st,as,D,m,p,rfl,c,hb,?_⟩;rcases cs with⟨dp,pn,q,bad⟩ | ⟨nn,ex⟩
  rotate_left
  ·exact .inr ⟨nofun,nn,ex⟩
  refine .inl ⟨dp,nofun,by have:=dp.k16;omega,λl H1 M U _ hZ=>?_⟩;have a7:=c.next M U;have ok:=dp.row c.m6;have hsl:=n8 c.gc ok c.n24;have b4:=n6 c.gc ok;obtain⟨ts,o,Z,b2,b3⟩:=id hZ;refine⟨l,rfl,⟨_,.inl (.inr ⟨o,Z⟩)⟩,?_⟩;refine cM (xs:=ts.map V.ref) (λi σ H'=>H'=H1/\(i<=ts.length/\¬ ((0:Int)<=k/\k<((((aY D p).take i).map λs=>s.2.2).sum:Nat)))/\∃x y z,σ=[some (V.ref a),some (V.ref b),some (V.int k),some (V.int ((((aY D p).take i).map λs=>s.2.2).sum:Nat)),x,y,z])
   ⟨rfl,⟨Mz _,by rw[M3];simp⟩,_,_,_,rfl⟩ (λi σ H' _ h=>by rw[h.1];exact .inl (.inr ⟨o,Z⟩)) ?_ ?_
  ·rintro i x σ H2 hx ⟨rfl,⟨hi,S⟩,x1,y1,z1,rfl⟩
   have v:i<ts.length:=by have:=(L'.mp hx).1;rwa [Mb]at this
   rw[Md,L_ v]at hx;cases hx;obtain⟨B,r⟩:∃s,(aY D p)[i]?=some s:=⟨_,L_ ⋯⟩;obtain⟨rl,he,hT⟩:=b3 i _ B (L_ v) r;generalize ts[i]'v=t at he;have a0:=tQ (λs:vS=>s.2.2) _ _ _ r;generalize c0:(((aY D p).take i).map λs=>s.2.2).sum=pas at S a0;ext;refine⟨_,aS.of he,rfl,_,_,rfl,_,_,rfl,_,_,rfl,rfl,?_⟩;rw[a0]
   by_cases a6:(pas:Int)<=k
   ·rw[q07 a6]
    refine⟨_,rfl,?_⟩
    by_cases a5:k<(pas:Int)+(B.2.2:Int)
    ·rw[q07 a5]
     refine⟨am nofun,λp1 c2=>?_⟩;have s2:=ae (o:=.tup [V.int (B.1:Int)]) c2;have e2:aA H2 p1 (.tup [V.int (B.1:Int)]) p1=some (.tup [V.int (B.1:Int)]):=ad;generalize aA H2 p1 (.tup [V.int (B.1:Int)])=H3 at s2 e2 ⊢;have C:=a7.up s2;obtain⟨j,hj⟩:∃j:Nat,k=((pas+j:Nat):Int):=⟨(k-pas).toNat,⋯⟩;obtain⟨q0,a1,hn0,G,c3,h00,hfw⟩:=fK (Me r);have hfp:=cq ok.r1 ok.c1;obtain⟨q4,qc,qc9⟩:=c.gc q0 (Me a1);have a3:B.2.1.length<=2:=by
      rcases dl q4 ok.r1 ok.c1 G with e | ⟨T,e,_⟩ | ⟨_,z,f,sz,f1,f2,e⟩<;>rw[e]<;>simp
     have a4:∀T∈B.2.1,fm T:=λT u=>(fF c.gc ok (Me r) u).1;obtain⟨J,O⟩:∃J,(bK (RT D) B.2.1)[j]?=some J:=⟨_,L_ (by rw[gC (g:=CN D) λT u=>cw c.gc (a4 T u),<- c3];omega)⟩;refine⟨dx,_,C.at_,rfl,a,dx,g,dg,d1,d2,rl,sg,st,as,D,m,B.2.1,j,J,by rw[show k-(pas:Int)=(j:Int) by omega],C,hT.kz (Kp.of s2).z,λT u=>?_,a3,λ_=>by omega,O,λx vs H4 L a8 a9 Y=>?_⟩
     ·obtain⟨d',lt'⟩:=dp.part c.gc (Me a1) ⋯ G u
      exact⟨d',by push_cast at pn;omega⟩
     ·have htl2:=(rS c.gc a4 a3 O).1
      have b1:=Y.length;rw[Mb]at b1;refine iL ((C.kp L).tup e2) a9 (by simp) (by simp;omega) λp2 H5 a2 s5=>?_;have I:=Ec c.gc ok r O;rw[c0]at I;refine q (pas+j) _ hj I (.ref p2) H5 (((M.trans (.of s2)).trans L).trans (.of s5)) ((C.next L a8).up s5).mm (bB.of (vs:=vs) ?_ ?_)
      ·rw[Au];exact a2
      ·rw[CO _ ⋯];exact Y.up (dH.of s5) _
    ·rw[q06 a5]
     exact⟨_,rfl,v,⋯,by push_cast;rfl⟩
   ·rw[q06 a6]
    exact⟨_,rfl,v,⋯,by push_cast;rfl⟩
  ·rintro σ H2 ⟨rfl,⟨_,S⟩,x1,y1,z1,rfl⟩
   refine h1 _ _ ?_;ext;rw[Mb,b2,MM,b4]at S;exact⟨am nofun,bad ⋯ H2 M U⟩
theorem Bh{f CT yaa yac:Addr}(F:cu K "tree_in" "TreeRows.tree_in" cA f fd):aT P w K mg base (bN P w) 73 f fd ["self","row","k"] (cg R CG CT yaa yac 0):=by
 have c:∀{vs:List V} {H:Hp} {Q:VK} {E:XK},¬ cg R CG CT yaa yac 0 vs H Q E:=λh=>by
  obtain⟨a,dx,g,dg,d1,d2,b,sg,st,as,rs,m,p,k,_,_,_,e,_⟩:=h;exact q0O e ⋯
 exact F.okX (k:=72) (sp:=cg R CG CT yaa yac 0) lI (λvs H Q E h=>q0O h c) (λcdv A outer s H vs Q E hr h=>q0O h c)
theorem pe{CT yaa yac:Addr}{fd1 fd2:Nd}(F1:cu K "tree_in" "TreeRows.tree_in" cA f1 fd1)(F2:cu K "trees_in" "TreeRows.trees_in" cC f2 fd2)(nb:NB mg)(ct:fQ K CT)(yaE:mg "NoNumber"=some (.ref yac))(yaD:XR K yac)
  (me1:cT K CT "tree_in" f1) (me2:cT K CT "trees_in" f2) (b1:bR K fd1 ["self","row","k"] []) (b2:bR K fd2 ["self","rows","k"] [])
  (yae:b0 P w K mg base (bN P w) 72 CT "many_in" ["self","row"] (bz R CG CT yaa 17)) (yaj:b0 P w K mg base (bN P w) 71 CT "steps_of" ["self","row"] (bS R CG CT yaa 17)) :
  ∀n,b0 P w K mg base (bN P w) (73+2*n) CT "tree_in" ["self","row","k"] (cg R CG CT yaa yac n)
 |0=>⟨f1,fd1,Bh F1,ct.cl,me1,b1⟩
 |n+1=>by
  have ih:=pe F1 F2 nb ct yaE yaD me1 me2 b1 b2 yae yaj n;have c2:b0 P w K mg base (bN P w) (73+2*n+1) CT "trees_in" ["self","rows","k"] (gI R CG CT n):=⟨f2,fd2,rZ (lv:=73+2*n) ⋯ F2 nb yae ih,ct.cl,me2,b2⟩;exact⟨f1,fd1,sR (lv:=73+2*n) ⋯ F1 nb yaE yaD yaj c2,ct.cl,me1,b1⟩
abbrev kN:Stmt:=fz 6 0
theorem EM:ay ["self","why"] ["self","why"] (ak kN):=by walk_at "c"
theorem Em{f:Addr}(F:cu K "__init__" "NoTree.__init__" kN f fd)(xs:W.XSt K C "why"):↑aT 1 f fd ["self","why"] (mU C "why"):=by
 have sc:=EM;refine F.ok sc (λvs H Q E h=>by obtain⟨_,_,h,_⟩:=h;rw[h];rfl) (λcdv A outer s H vs Q E hr h=>?_)
 ·obtain⟨a,v,rfl,c,q⟩:=h
  refine⟨_,(ai (AJ (pv 0) (pv 1) rfl)),?_⟩;ext;exact⟨C,c,xs,λd b=>q d b⟩
structure SJ where
 d:Dt
 nm:List Nat
 p:bJ
 c:Int
 m:Int
 k:Nat
def Sh:Nat->Dt->List Int->Prop
 |0,_,_=>False
 |n+1,d,ns=>∃(i:Nat) (ds:List Dt) (nss:List (List Int)),d=.tup (.int (i:Int)::ds)/\ns=(i:Int)::nss.flatten/\ds.length=nss.length/\ds.length<=2/\∀(j:Nat) d' ns',ds[j]?=some d'->nss[j]?=some ns'->Sh n d' ns'
theorem Sh.mono:∀{m n:Nat} {d:Dt} {ns:List Int},Sh m d ns->m<=n->Sh n d ns
 |0,_,_,_,h,_=>h.elim
 |m+1,0,_,_,_,h=>q0O h ⋯
 |m+1,n+1,d,ns,⟨i,ds,nss,e1,e2,e3,e4,h⟩,hmn=>⟨i,ds,nss,e1,e2,e3,e4,λj d' ns' h1 h2=>(h j d' ns' h1 h2).mono ⋯⟩
theorem Sh.len:∀{n:Nat} {d:Dt} {ns:List Int},Sh n d ns->ns.length<2 ^ n
 |0,_,_,h=>h.elim
 |n+1,d,ns,⟨i,ds,nss,e1,e2,e3,e4,h⟩=>by
  have hp:0<2 ^ n:=Nat.two_pow_pos n;have h':∀(j:Nat) ns',nss[j]?=some ns'->ns'.length<2 ^ n:=λj ns' hj=>by
   have hj2:j<ds.length:=by rw[e3];exact(L'.mp hj).1
   exact(h j _ ns' (L_ hj2) hj).len
  rw[e2,Nat.pow_succ]
  match nss,e3,h' with
  | [],_,_=>simp;omega
  | [a],_,h'=>have:=h' 0 a rfl;simp;omega
  | [a,b],_,h'=>have:=h' 0 a rfl;have:=h' 1 b rfl;simp;omega
  |a::b::c::nss,e3,_=>simp at e3;omega
theorem ut{α:Type}{xss:List (List α)}{j:Nat}{xs:List α}(h:xss[j]?=some xs):(xss.take (j+1)).flatten=(xss.take j).flatten++xs:=by
 rw[List.take_succ,h];simp
theorem jq{α:Type}:∀(xss:List (List α)) (j:Nat),(xss.take j).flatten.length<=xss.flatten.length
 | [],_=>by simp
 |xs::xss,0=>by simp
 |xs::xss,j+1=>by have:=jq xss j;simp[-List.length_flatten] ;omega
abbrev i7:Stmt:=gZ 37
inductive iz(n:Nat)(vs:List V)(H:Hp)(Q:VK)(_E:XK):Prop
 |mk (v:V) (d:Dt) (ns:List Int) (_:vs=[v]) (_:aU H d v) (_:Sh n d ns) (_:∀l H',H l=none->H' l=some (.lst (ns.map V.int))->aD H H'->Q (.ref l) H')
theorem lJ:ay ["tree","numbers","part"] ["tree"] (ak i7):=by walk_at "c"
theorem lL{f:Addr}(F:cu K "numbers_in" "numbers_in" i7 f fd)(nb:NB mg)(hm:mg "numbers_in"=some (.ref f))(hk:W.keepIn K (.ref f)=true)(hb:bR K fd ["tree"] []):∀n,n<=18->↑aT (n+1) f fd ["tree"] (iz n)
 |0,_=>by
  refine F.ok lJ (λvs H Q E h=>?_) (λcdv A outer s H vs Q E hr h=>?_)
  ·obtain⟨v,d,ns,_,_,h,_⟩:=h;exact h.elim
  ·obtain⟨v,d,ns,_,_,h,_⟩:=h;exact h.elim
 |n+1,hn=>by
  have sc:=lJ;have yaQ:↑dO (n+1) "numbers_in" ["tree"] (iz n):=⟨f,fd,lL F nb hm hk hb n ⋯,hm,hk,hb⟩;walk_at "f"
  ·obtain⟨v,d,ns,rfl,ht,hsh,q⟩:=h
   refine⟨_,(af (q01 1 sc.nd (bA (aa g⁻¹ ac)))
   (af (bD PassesOwn.never rfl (u7 (cX oM (al 0) (dN ah) fq)) (q02 2 sc.nd)
   (ai (br (ib PySem.F.plainAttrs_list PySem.F.slot_list_extend PySem.F.type_list_extend BV (al 1) (aa (aJ yaQ (hr.mono ⋯) rfl aW (aa (al 2) ac)) ac)))))
   (ai (aF (al 1))))),?_⟩
   obtain⟨i,ds,nss,rfl,rfl,e3,e4,hch⟩:=hsh;unfold aU at ht;obtain⟨a,xs,rfl,hta,hts⟩:=ht;obtain⟨x0,ys,rfl,hx0,htr⟩:=hts.uncons;unfold aU at hx0;subst hx0;have hyl:=htr.length;symm;refine⟨_,aS.of hta,_,fU _ _,am nofun,λl hl=>h1 _ _ ?_⟩;grind;have s1:=ae (o:=.lst [V.int (i:Int)]) hl;have e1:aA H l (.lst [V.int (i:Int)]) l=some (.lst [V.int (i:Int)]):=ad;generalize aA H l (.lst [V.int (i:Int)])=H1 at s1 e1 ⊢;refine⟨_,aS.of (s1 _ _ hta),mY _ _,λp hp=>?_⟩;rw[Da];have s2:=s1.trans (ae (o:=.tup ys) hp);have e2:=ae (o:=.tup ys) hp _ _ e1;have ep:aA H1 p (.tup ys) p=some (.tup ys):=ad;generalize aA H1 p (.tup ys)=H2 at s2 e2 ep ⊢;refine⟨⟨_,aS.of ep⟩,?_⟩;have hpw:2 ^ (n+1)<=2 ^ 18:=Nat.pow_le_pow_right nofun hn;have hlen:(nss.flatten).length+1<262145:=by
    have h:=Sh.len (n:=n+1) (d:=.tup (.int (i:Int)::ds)) (ns:=(i:Int)::nss.flatten) ⟨i,ds,nss,rfl,rfl,e3,e4,hch⟩;rw[Mm]at h;have:(2:Nat) ^ 18=262144:=by decide
    omega
   refine wO (xs:=ys) (λj σ k=>aD H k/\k p=some (.tup ys)/\k l=some (.lst (((i:Int)::(nss.take j).flatten).map V.int))/\∃z,σ=[some (V.ref a),some (V.ref l),z]) ⟨s2,ep,by rw[M3];exact e2,_,rfl⟩ ?_ ?_ ?_
   ·rintro j σ k _ ⟨_,h,_⟩
    exact aS.of h
   ·rintro j x σ k D ⟨u,c,b,z,rfl⟩
    obtain⟨C,r,B⟩:=gz htr D;have G:j<nss.length:=by rw[<- e3];exact(L'.mp r).1
    have g:nss[j]?=some nss[j]:=L_ G;have b1:=jq nss j;have J:=jq nss (j+1);rw[ut g,Mx]at J;ext;refine⟨.inl ⟨rfl,_,aO.of b⟩,x,C,nss[j],rfl,B.up (dH.of u) _,hch j C _ r g,λm H3 hm3 I y=>⟨m,rfl,_,y _ _ b,_,I,?_,eG (u.trans y) hl,?_,?_⟩⟩
    ·simp only[Mb,Mm]
     exact am ⋯
    ·rw[ao (λe=>by rw[e,b]at c;cases c)]
     exact y _ _ c
    ·rw[ad,ut g]
     simp
   ·rintro σ k ⟨u,c,b,z,rfl⟩
    refine h1 _ _ ?_;ext;rw[hyl,e3,MM]at b;exact q l k hl b u
theorem Gr.node{d:Dt}{nm:M8}(g:Gr rs d nm p c k):∃(n:Nat) (r:Nat×RV) (ys:List SJ),d=.tup (.int (n:Int)::ys.map SJ.d)/\rs[n]?=some r/\nm=r.2.n/\bw r.1 r.2=ys.map SJ.nm/\(∀y∈ys,Gr rs y.d y.nm y.p y.c y.k/\y.k<k)/\eY r.1 r.2 (ys.map SJ.p)=some p/\c=r.2.c+(ys.map SJ.c).sum/\ys.length<=2:=by
 cases g with
 | @cell n v e=>exact⟨n,(0,v),[],rfl,e,rfl,rfl,λy hy=>(nomatch hy),rfl,(Int.add_zero _).symm,by simp⟩
 | @turn n v d p c k e g=>
  refine⟨n,(3,v),[⟨d,v.o1,p,c,0,k⟩],rfl,e,rfl,rfl,λy hy=>?_,rfl,?_,by simp⟩
  ·rw[Mc.mp hy];exact⟨g,MI _⟩
  ·show v.c+c=v.c+(c+0)
   rw[Int.add_zero]
 | @pair n kd v d1 d2 p1 p2 p c1 c2 k1 k2 hk e g1 g2 m=>
  refine⟨n,(kd,v),[⟨d1,v.o1,p1,c1,0,k1⟩,⟨d2,v.o2,p2,c2,0,k2⟩],rfl,e,rfl,?_,λy hy=>?_,m,?_,by simp⟩
  ·rcases hk with rfl | rfl<;>rfl
  ·rcases Mq.mp hy with rfl | hy
   ·exact⟨g1,by show k1<max k1 k2+1;omega⟩
   ·rw[Mc.mp hy]
    exact⟨g2,by show k2<max k1 k2+1;omega⟩
  ·show v.c+(c1+c2)=v.c+(c1+(c2+0))
   rw[Int.add_zero]
abbrev jg:Stmt:=gZ 38
inductive iy(K:W.Frag)(R:RC)(CG:Addr)(n:Nat)(vs:List V)(H:Hp)(Q:VK)(_E:XK):Prop
 |mk (g:Addr) (v:V) (pl:Addr) (nv:V) (dx:Addr) (sg st:M8) (as:Nb) (rs:Yaa) (d:Dt) (nm:M8) (p:bJ) (c:Int) (k:Nat) (zs:List V) (_:vs=[.ref g,v,.ref pl,nv]) (_:dU R H CG dx g sg st as rs) (_:rs.length<=24) (_:aU H d v) (_:Gr rs d nm p c k) (_:k<=n) (_:(nv=.non\/nv=.str (tx nm))) (_:aS K H pl zs) (_:zs.length+n<=100) (_:∀H',aD H H'->Q .non H')
theorem lR:ay ["grammar","tree","place","name","number","rule","parts","k","part"] ["grammar","tree","place","name"] (ak jg):=by walk_at "c"
theorem lP{f yaf:Addr}(F:cu K "check_form" "check_form" jg f fd)(nb:NB mg)(rk:pi K R)(yaB:mg "NoTree"=some (.ref yaf))(yaF:XI P w K mg base 1 yaf "why")(yay:↑pG 1 "parts" (oz K R))(yad:↑b0 1 CG "rule" ["self","k"] (b8 R CG))(yaV:↑b0 1 CG "many" ["self"] (jf R CG))(hm:mg "check_form"=some (.ref f))(hk:W.keepIn K (.ref f)=true)(hb:bR K fd ["grammar","tree","place","name"] []):∀n,n<=18->aT P w K mg base (bN P w) (n+4) f fd ["grammar","tree","place","name"] (iy K R CG n)
 |0,_=>by
  refine F.okX lR (λvs H Q E h=>?_) (λcdv A outer s H vs Q E hr h=>?_)
  ·obtain⟨g,v,pl,nv,dx,sg,st,as,rs,d,nm,p,c,k,zs,rfl,_⟩:=h;rfl
  ·obtain⟨g,v,pl,nv,dx,sg,st,as,rs,d,nm,p,c,k,zs,rfl,_,_,_,hg,hk0,_⟩:=h
   exfalso;cases hg<;>omega
 |n+1,hn=>by
  have sc:=lR;have yaH:dO P w K mg base (bN P w) (n+4) "check_form" ["grammar","tree","place","name"] (iy K R CG n):=⟨f,fd,lP F nb rk yaB yaF yay yad yaV hm hk hb n ⋯,hm,hk,hb⟩;walk_at "x"
  ·obtain⟨g,v,pl,nv,dx,sg,st,as,rs,d,nm,p,c,k,zs,rfl,_⟩:=h;rfl
  ·obtain⟨g,v,pl,nv,dx,sg,st,as,rs,d,nm,p,c,k,zs,rfl,hG,h24,ht,hg,hkn,hnv,hpl,hz,q⟩:=h
   refine⟨_,(af (q01 4 sc.nd e⁻¹)
   (af (bp (PW.pt (lK (aE (bg.m0 rF) (al 4) ah (aI _)) (iq (aE (bg.m0 Gw) (al 4) (EC yaV (hr.mono ⋯) aW (al 0)) (aI _)))))
   (ai (eX yaF (hr.mono ⋯) rfl rfl yaB (eW λ_ _ _ h=>h) (aa (aN (bH (aa (al 2) ac))) ac)))
   aK)
   (af (q01 5 sc.nd (bP yad (hr.mono ⋯) aW (al 0) (aa (al 4) ac)))
   (af (q01 6 sc.nd (xo yay (hr.mono ⋯) aW (al 5)))
   (af (bp (aE oS (au (bg.m0 fu) (aC BX rfl nb.len aR (aa (al 1) ac)) ah) (aC aV rfl nb.len aR (aa (al 6) ac)) (aI _))
   (ai (eX yaF (hr.mono ⋯) rfl rfl yaB (eW λ_ _ _ h=>h) (aa (aN (bH (aa (al 2) ac))) ac)))
   aK)
   (af (bp (PW.pt (iu (aE Az (al 3) fY (aI _)) (ig (aE oS (bM (al 5) rfl) (al 3) (aI _)))))
   (ai (eX yaF (hr.mono ⋯) rfl rfl yaB (eW λ_ _ _ h=>h) (aa (aN (bH (aa (al 2) ac))) ac)))
   aK)
   (ai (bD PassesOwn.leaving rfl (pX rfl nb.enumerate (aa (al 6) ac)) (fg (n:=2) rfl (aM (q02 7 sc.nd) (aM (q02 8 sc.nd) cz)))
   (ai (br (aJ (E:=E) yaH (hr.mono ⋯) rfl (bh λ_ _ _ h=>h) (aa (al 0) (aa (az aw (al 1) (au (bg.m0 bO) (al 7) ah) (λ_ _=>rfl)) (aa (au AI (al 2) (aN (aa (al 7) ac))) (aa (al 8) ac))))))))))))))),?_⟩
   obtain⟨i,r,ys,rfl,hri,rfl,hpar,hsub,hmd,hcc,hyl⟩:=hg.node;unfold aU at ht;obtain⟨a,xs,rfl,hta,hts⟩:=ht;obtain⟨x0,vs,rfl,hx0,htr⟩:=hts.uncons;unfold aU at hx0;subst hx0;have hvl:=htr.length;have hvl2:vs.length=ys.length:=by rw[hvl,Mb]
   have hi:i<rs.length:=(L'.mp hri).1;symm;refine⟨_,aS.of hta,_,fU _ _,h1 _ _ ?_⟩;grind;obtain⟨lk,pn,t,ha,hkk,G,hN,hmm⟩:=id hG;rw[q06 ⋯];refine⟨_,_,ha,rfl,g,dx,sg,st,as,rs,rfl,hG,?_⟩;refine⟨_,rfl,?_⟩;rw[q06 ⋯];refine h1 _ _ ?_;grind;have a4:i<as.length:=by rw[G.1];exact hi
   obtain⟨b,L⟩:∃b,as[i]?=some b:=⟨_,L_ a4⟩;have B:=G.2 i b r L hri;refine⟨_,_,ha,rfl,g,dx,sg,st,as,rs,i,b,rfl,hG,L,h1 _ _ ?_⟩;grind;refine tJ rk B λlp H1 hlp0 y s1=>h1 _ _ ?_;grind;have l:(aH (bw r.1 r.2)).length=ys.length:=by rw[ar,hpar,Mb]
   refine⟨_,aS.of (s1 _ _ hta),_,aO.of y,?_⟩;rw[l,q06 (by rw[Mm,hvl2];omega)];refine h1 _ _ ?_;grind;obtain⟨rdx,rl,a2,hrl⟩:=id B;have go:N1 [some (V.ref g),some (V.ref a),some (V.ref pl),some nv,some (V.int (i:Int)),some (V.ref b),some (V.ref lp),none,none] H1:=by
    refine h1 _ _ ?_;clear h1;ext;refine⟨_,aO.of y,?_⟩;refine nK (xs:=aH (bw r.1 r.2)) (λj σ u=>aD H u/\u lp=some (.lst (aH (bw r.1 r.2)))/\∃S O,σ=[some (V.ref g),some (V.ref a),some (V.ref pl),some nv,some (V.int (i:Int)),some (V.ref b),some (V.ref lp),S,O]) ⟨s1,y,_,_,rfl⟩ ?_ ?_ ?_
    ·rintro j σ u _ ⟨_,h,_⟩
     exact aO.of h
    ·rintro j x σ u T M ⟨U,m,S,O,rfl⟩ hT
     have hj:j<ys.length:=by rw[<- l];exact(L'.mp M).1
     have a0:x=V.str (tx ys[j].nm):=by
      rw[hpar]at M;rw[bc (by rw[Mb];exact hj),MD]at M;exact(q0Q M).symm
     subst a0;have Y:=ae (o:=.tup [V.int (j:Int),V.str (tx ys[j].nm)]) hT;have eT:aA u T (.tup [V.int (j:Int),V.str (tx ys[j].nm)]) T=some (.tup [V.int (j:Int),V.str (tx ys[j].nm)]):=ad;generalize aA u T (.tup [V.int (j:Int),V.str (tx ys[j].nm)])=H2 at Y eT ⊢;have C:=U.trans Y;have a5:j<vs.length:=by omega
     have D:vs[j]?=some vs[j]:=L_ a5;obtain⟨d',J,a1⟩:=gz htr D;rw[Md,L_ hj]at J;cases J;obtain⟨a6,hkj⟩:=hsub ys[j] (Mi hj);ext;refine⟨_,aS.of eT,rfl,_,_,rfl,_,_,rfl,rfl,?_⟩;refine⟨_,rfl,_,aS.of (C _ _ hta),_,show gj (V.int (i:Int)::vs) (((j+1:Nat)):Int)=some vs[j] from a_ (by rw[ME];exact D),am nofun,λp1 I=>?_⟩;have s3:=C.trans (ae (o:=.tup [V.int (j:Int)]) I);have sL:=Y.trans (ae (o:=.tup [V.int (j:Int)]) I);have e3:aA H2 p1 (.tup [V.int (j:Int)]) p1=some (.tup [V.int (j:Int)]):=ad;generalize aA H2 p1 (.tup [V.int (j:Int)])=H3 at s3 e3 sL ⊢;refine⟨_,s3.sqT hpl,_,aS.of e3,by simp;exact am ⋯,λpp H4 a3 s4=>?_⟩;have Z:=s3.trans s4;refine⟨g,vs[j],pp,_,dx,sg,st,as,rs,ys[j].d,ys[j].nm,ys[j].p,ys[j].c,ys[j].k,_,rfl,hG.up Z,h24,a1.up (dH.of Z) _,a6,⋯,.inr rfl,a3,by simp;omega,λH5 s6=>⟨Z.trans s6,s6 _ _ (s4 _ _ (sL _ _ m))⟩⟩
    ·rintro σ u ⟨U,m,S,O,rfl⟩
     exact q u U
   rcases hnv with rfl | rfl
   ·rw[q06 (λe=>e rfl)]
    exact go
   ·rw[q07 (λe=>by cases e)]
    refine⟨_,_,_,s1 _ _ a2,(rk.icls r.1).cl,(rk.name r.1).1,_,(i9 rl r.2 r.1).1,rfl,?_⟩;rw[q06 (λe=>e rfl)];exact go
theorem F_{k:Nat}{ys:List SJ}(hk:k<4)(hp:bw k v=ys.map SJ.nm)(h6:∀y∈ys,∃r c,fb y.p r c):BR k (ys.map SJ.p):=by
 have a:=q0P List.length hp;rw[Mb]at a
 match k,hk with
 |0,_=>
  have g:ys.length=0:=a.symm;rw[MQ.mp g];exact .cell
 |1,_=>
  match ys,(show ys.length=2 from a.symm),h6 with
  | [x,y],_,h6=>
   obtain⟨r,c,h⟩:=h6 x (by simp);obtain⟨e,j,b⟩:=h6 y (by simp);exact .beside h b
 |2,_=>
  match ys,(show ys.length=2 from a.symm),h6 with
  | [x,y],_,h6=>
   obtain⟨r,c,h⟩:=h6 x (by simp);obtain⟨e,j,b⟩:=h6 y (by simp);exact .above h b
 |3,_=>
  match ys,(show ys.length=1 from a.symm),h6 with
  | [x],_,h6=>
   obtain⟨r,c,h⟩:=h6 x (by simp);exact .turn h
abbrev Er:Stmt:=gZ 39
inductive yM(K:W.Frag)(R:RC)(CG:Addr)(n:Nat)(vs:List V)(H:Hp)(Q:VK)(_E:XK):Prop
 |mk (g:Addr) (v:V) (pl:Addr) (dx:Addr) (sg st:M8) (as:Nb) (rs:Yaa) (d:Dt) (nm:M8) (p:bJ) (c:Int) (k:Nat) (zs:List V) (_:vs=[.ref g,v,.ref pl]) (_:dU R H CG dx g sg st as rs) (_:(∀r∈rs,df r)) (_:aU H d v) (_:Gr rs d nm p c k) (_:k<=n) (_:aS K H pl zs) (_:zs.length+n<=100) (_:cN H p Q)
theorem E8:ay ["grammar","tree","place","pictures","k","part"] ["grammar","tree","place"] (ak Er):=by walk_at "c"
theorem EI{f CF:Addr}(F:cu K "lay" "lay" Er f fd)(nb:NB mg)(yaX:pG P w K mg base (bN P w) 4 "made" (qf K R CF))(yad:↑b0 1 CG "rule" ["self","k"] (b8 R CG))(hm:mg "lay"=some (.ref f))(hk:W.keepIn K (.ref f)=true)(hb:bR K fd ["grammar","tree","place"] []):∀n,n<=18->↑aT (n+5) f fd ["grammar","tree","place"] (yM K R CG n)
 |0,_=>by
  refine F.ok E8 (λvs H Q E h=>?_) (λcdv A outer s H vs Q E hr h=>?_)
  ·obtain⟨g,v,pl,dx,sg,st,as,rs,d,nm,p,c,k,zs,rfl,_⟩:=h;rfl
  ·obtain⟨g,v,pl,dx,sg,st,as,rs,d,nm,p,c,k,zs,rfl,_,_,_,hg,hk0,_⟩:=h
   exfalso;cases hg<;>omega
 |n+1,hn=>by
  have sc:=E8;have yaJ:↑dO (n+5) "lay" ["grammar","tree","place"] (yM K R CG n):=⟨f,fd,EI F nb yaX yad hm hk hb n ⋯,hm,hk,hb⟩;walk_at "f"
  ·obtain⟨g,v,pl,dx,sg,st,as,rs,d,nm,p,c,k,zs,rfl,hG,hgd,ht,hg,hkn,hpl,hz,q⟩:=h
   refine⟨_,(af (q01 3 sc.nd (bA ac))
   (af (bD PassesOwn.never rfl (EG rfl nb.enumerate (aa (cX oM (al 1) (dN ah) fq) ac)) (fg (n:=2) rfl (aM (q02 4 sc.nd) (aM (q02 5 sc.nd) cz)))
   (ai (br (q03 (al 3) (aa (aJ yaJ (hr.mono ⋯) rfl aW (aa (al 0) (aa (al 5) (aa (au AI (al 2) (aN (aa (al 4) ac))) ac)))) ac)))))
   (ai (wQ (ai (aF (Ae (CX:=bN P w) yaX (hr.mono ⋯) bq (bP yad (hr.mono ⋯) aW (al 0) (aa e⁻¹ ac)) (aa (al 3) ac)))))))),?_⟩
   obtain⟨i,r,ys,rfl,hri,rfl,hpar,hsub,hmd,hcc,hyl⟩:=hg.node;unfold aU at ht;obtain⟨a,xs,rfl,hta,hts⟩:=ht;obtain⟨x0,vs,rfl,hx0,htr⟩:=hts.uncons;unfold aU at hx0;subst hx0;have hvl:=htr.length;have hvl2:vs.length=ys.length:=by rw[hvl,Mb]
   have hi:i<rs.length:=(L'.mp hri).1;symm;refine⟨Mz _,λl hl=>h1 _ _ ?_⟩;grind;have s1:=ae (o:=.lst []) hl;have e1:aA H l (.lst []) l=some (.lst []):=ad;generalize aA H l (.lst [])=H1 at s1 e1 ⊢;refine⟨_,aS.of (s1 _ _ hta),mY _ _,λpt S=>?_⟩;rw[Da];have s2:=s1.trans (ae (o:=.tup vs) S);have e2:=ae (o:=.tup vs) S _ _ e1;have ep:aA H1 pt (.tup vs) pt=some (.tup vs):=ad;generalize aA H1 pt (.tup vs)=H2 at s2 e2 ep ⊢;have b4:∀y∈ys,y.p≠[]:=λy hy e=>by
    obtain⟨r',c',h6⟩:=(hsub y hy).1.pic6 hgd;have:=h6.rc.1;have:=h6.r0;rw[e]at *;simp at *;omega
   refine⟨_,aS.of ep,?_⟩;refine zS (xs:=vs) (λj σ I=>aD H I/\I pt=some (.tup vs)/\(∃bs:List Addr,I l=some (.lst (bs.map V.ref))/\bs.length=j/\∀(m:Nat) b y,bs[m]?=some b->ys[m]?=some y->I b=some (.lst (aH y.p)))/\∃z1 z2,σ=[some (V.ref g),some (V.ref a),some (V.ref pl),some (V.ref l),z1,z2]) ⟨s2,ep,⟨[],e2,rfl,λm b y h=>by simp at h⟩,_,_,rfl⟩ ?_ ?_ ?_
   ·rintro j σ I _ ⟨_,h,_⟩
    exact aS.of h
   ·rintro j x σ I T hx ⟨L,u,⟨bs,C,D,G⟩,z1,z2,rfl⟩ hT
    have hjv:j<vs.length:=(L'.mp hx).1;have hj:j<ys.length:=by omega
    have sT:=ae (o:=.tup [V.int (j:Int),x]) hT;have eT:aA I T (.tup [V.int (j:Int),x]) T=some (.tup [V.int (j:Int),x]):=ad;generalize aA I T (.tup [V.int (j:Int),x])=H3 at sT eT ⊢;obtain⟨d',a0,b1⟩:=gz htr hx;rw[Md,L_ hj]at a0;cases a0;obtain⟨c4,hkj⟩:=hsub ys[j] (Mi hj);have a5:=L.trans sT;ext;refine⟨_,aS.of eT,rfl,_,_,rfl,_,_,rfl,rfl,.inl ⟨rfl,_,aO.of (sT _ _ C)⟩,am nofun,λp1 b3=>?_⟩;have sU:=ae (o:=.tup [V.int (j:Int)]) b3;have eU:aA H3 p1 (.tup [V.int (j:Int)]) p1=some (.tup [V.int (j:Int)]):=ad;generalize aA H3 p1 (.tup [V.int (j:Int)])=H4 at sU eU ⊢;have s4:=a5.trans sU;refine⟨_,s4.sqT hpl,_,aS.of eU,by simp;exact am ⋯,λpp H5 b2 s5=>?_⟩;have s6:=s4.trans s5;have a6:=(sT.trans sU).trans s5;refine⟨g,x,pp,dx,sg,st,as,rs,ys[j].d,ys[j].nm,ys[j].p,ys[j].c,ys[j].k,_,rfl,hG.up s6,hgd,b1.up (dH.of s6) _,c4,⋯,b2,by simp;omega,λlq H6 hlq0 c3 s7=>?_⟩;have M:=a6.trans s7;have Y:=M _ _ C;refine⟨_,Y,by rw[Mb];exact bf ⋯,eG (s6.trans s7) hl,?_,bs++[lq],by rw[ad];simp,by simp[D],λm b y B J=>?_⟩
    ·rw[ao (λe=>by rw[e,C]at u;cases u)]
     exact M _ _ u
    ·have a9:=Me J
     have a1:H6 b=some (.lst (aH y.p)):=by
      by_cases c1:m<bs.length
      ·rw[Mw c1]at B
       exact M _ _ (G m b y B J)
      ·rw[Mv ⋯]at B
       have c0:m=bs.length:=by
        have:=(L'.mp B).1;simp at this;omega
       subst c0;rw[Nat.sub_self]at B;cases B;rw[D,L_ hj]at J;cases J;exact c3
     rw[ao (yl Y a1 (b4 y a9))];exact a1
   ·rintro σ I ⟨L,u,⟨bs,C,D,G⟩,z1,z2,rfl⟩
    refine h1 _ _ ?_;ext;obtain⟨lk,pn,t,ha,hkk,O,hN,hmm⟩:=id (hG.up L);have c2:i<as.length:=by rw[O.1];exact hi
    obtain⟨b,a2⟩:∃b,as[i]?=some b:=⟨_,L_ c2⟩;have a4:=O.2 i b r a2 hri;have Z:=hgd r (Me hri);rw[hvl2]at D;have a3:Dh I l bs (ys.map SJ.p):=⟨C,by rw[D,Mb],λm h1 h2=>by
     rw[MD];exact G m _ _ (L_ h1) (L_ ⋯)⟩
    refine⟨_,_,ha,rfl,_,aS.of (L _ _ hta),_,fU _ _,g,dx,sg,st,as,rs,i,b,rfl,hG.up L,a2,?_⟩;obtain⟨o,ho,a8,a7,k1,k2,k3⟩:=C7 (K:=K) (CF:=CF) (E:=λ_ _ _=>False) (Q:=Q) a4 (Z.good.ok r.1) a3 (F_ Z.k4 hpar λy hy=>(hsub y hy).1.pic6 hgd) (λp' U=>by
     rw[hmd]at U;cases U;exact λlq H7 h0 h7 s7=>q lq H7 (gu L h0) h7 (L.trans s7)) (λe=>by rw[hmd]at e;cases e)
    exact⟨o,ho,b,rfl,a8,a7,k1,k2,k3⟩
abbrev yu:Stmt:=gZ 35
def oF(R:RC)(CG:Addr)(H:Hp)(g:Addr)(v:V)(rs:Yaa)(d:Dt)(p:bJ)(c:Int):Prop:=∃(dx:Addr) (sg st:M8) (as:Nb) (nm:M8) (k:Nat),dU R H CG dx g sg st as rs/\(∀r∈rs,df r)/\rs.length<=24/\aU H d v/\Gr rs d nm p c k/\k<=18
theorem oF.up{d:Dt}(h:oF R CG H g v rs d p c)(s:aD H H'):oF R CG H' g v rs d p c:=by
 obtain⟨o,b,a,q,e,k,h1,h2,n,m,l,j⟩:=h;exact⟨o,b,a,q,e,k,h1.up s,h2,n,m.up (dH.of s) _,l,j⟩
inductive pP(R:RC)(CG:Addr)(vs:List V)(H:Hp)(Q:VK)(_E:XK):Prop
 |mk (g:Addr) (v:V) (rs:Yaa) (d:Dt) (p:bJ) (c:Int) (_:vs=[.ref g,v]) (_:oF R CG H g v rs d p c) (_:cN H p Q)
theorem Ga:ay ["grammar","tree"] ["grammar","tree"] (ak yu):=by walk_at "c"
theorem Fe{f:Addr}(F:cu K "laid" "laid" yu f fd)(nb:NB mg)(yaH:dO P w K mg base (bN P w) 22 "check_form" ["grammar","tree","place","name"] (iy K R CG 18))(yaJ:↑dO 23 "lay" ["grammar","tree","place"] (yM K R CG 18)):↑aT 24 f fd ["grammar","tree"] (pP R CG):=by
 have sc:=Ga;walk_at "f"
 ·obtain⟨g,v,x,d,p,c,rfl,⟨I,u,r,J,y,k,G,m,n,B,D,C⟩,q⟩:=h
  refine⟨_,(af (br (aJ (CX:=bN P w) yaH b⁻¹ rfl bq (aa (al 0) (aa (al 1) (aa (aN ac) (aa fY ac))))))
   (ai (aF (aJ yaJ b⁻¹ rfl aW (aa (al 0) (aa (al 1) (aa (aN ac) ac))))))),?_⟩
  ext;refine⟨Mz _,λS j=>?_⟩;have b:=ae (o:=.tup []) j;refine⟨g,v,S,_,I,u,r,J,x,d,y,p,c,k,[],rfl,G.up b,n,B.up (dH.of b) _,D,C,.inl rfl,aS.of ad,by simp,λH2 M=>⟨Mz _,λO e=>?_⟩⟩;have a:=(b.trans M).trans (ae (o:=.tup []) e);exact⟨g,v,O,I,u,r,J,x,d,y,p,c,k,[],rfl,G.up a,m,B.up (dH.of a) _,D,C,aS.of ad,by simp,λl Y U T L=>q l Y (gu a U) T (a.trans L)⟩
def mO(rs:Yaa)(i:Int):Int:=match rs[i.toNat]? with | some r=>r.2.c | none=>0
theorem Gr.sh:∀{k:Nat} {d:Dt} {nm:M8} {p:bJ} {c:Int},Gr rs d nm p c k->∃ns:List Int,Sh k d ns/\(ns.map (mO rs)).sum=c/\∀i∈ns,0<=i/\i<rs.length:=by
 intro k d nm p c g
 induction g with
 | @cell n v e=>
  have u:=(L'.mp e).1;refine⟨[(n:Int)],⟨n,[],[],rfl,rfl,rfl,by simp,λj w q h=>by simp at h⟩,?_,λi hi=>?_⟩
  ·show mO rs (n:Int)+0=v.c
   unfold mO;rw[Mj,e,Int.add_zero]
  ·rw[Mc.mp hi];omega
 | @turn n v d p c k e g ih=>
  obtain⟨ns,h1,h2,r⟩:=ih;have u:=(L'.mp e).1;refine⟨(n:Int)::ns,⟨n,[d],[ns],rfl,by simp,rfl,by simp,λj w q a b=>?_⟩,?_,λi hi=>?_⟩
  ·match j,a,b with
   |0,a,b=>cases a;cases b;exact h1
   |j+1,a,_=>simp at a
  ·rw[MF,List.sum_cons,h2]
   unfold mO;rw[Mj,e]
  ·rcases Mq.mp hi with rfl | hi
   ·omega
   ·exact r i hi
 | @pair n kd v d1 d2 p1 p2 p c1 c2 k1 k2 hk e g1 g2 m ih1 ih2=>
  obtain⟨o,h1,h2,r⟩:=ih1;obtain⟨l,B,y,x⟩:=ih2;have u:=(L'.mp e).1;refine⟨(n:Int)::(o++l),⟨n,[d1,d2],[o,l],rfl,by simp,rfl,by simp,λj w q a b=>?_⟩,?_,λi hi=>?_⟩
  ·match j,a,b with
   |0,a,b=>cases a;cases b;exact h1.mono ⋯
   |1,a,b=>cases a;cases b;exact B.mono ⋯
   |j+2,a,_=>simp at a
  ·rw[MF,List.sum_cons,Mn,List.sum_append,h2,y]
   unfold mO;rw[Mj,e]
  ·rcases Mq.mp hi with rfl | hi
   ·omega
   ·rcases Mo.mp hi with hi | hi
    ·exact r i hi
    ·exact x i hi
abbrev ow:Stmt:=gZ 36
inductive qx(R:RC)(CG:Addr)(vs:List V)(H:Hp)(Q:VK)(_E:XK):Prop
 |mk (g:Addr) (v:V) (rs:Yaa) (d:Dt) (p:bJ) (c:Int) (_:vs=[.ref g,v]) (_:oF R CG H g v rs d p c) (_:∀H',aD H H'->Q (.int c) H')
theorem zz:ay ["grammar","tree"] ["grammar","tree"] (ak ow):=by walk_at "c"
theorem zb{f:Addr}(F:cu K "cost_of" "cost_of" ow f fd)(nb:NB mg)(yak:mg "sum"=none)(rk:pi K R)(yad:↑b0 1 CG "rule" ["self","k"] (b8 R CG))(yaq:↑dO 24 "laid" ["grammar","tree"] (pP R CG))(yaQ:↑dO 19 "numbers_in" ["tree"] (iz 18)):↑aT 25 f fd ["grammar","tree"] (qx R CG):=by
 have sc:=zz;walk_at "f"
 ·obtain⟨g,v,a,d,p,c,rfl,Z,q⟩:=h
  refine⟨_,(af (br (aJ yaq b⁻¹ rfl aW (aa (al 0) (aa (al 1) ac))))
   (ai (aF (aC (kP rfl) rfl yak uG (aa (cH ["number"] [0] rfl (bI.of i⁻¹) i⁻¹ (cv (aJ yaQ b⁻¹ rfl aW (aa (al 1) ac)))
    (λ_ _ _ _=>(ax (i:=0) (by show(["number","grammar"]:List Str).Nodup;decide +kernel) rfl (Or.inl rfl))) (λ_ _ _ _=>bW) (λ_ _ _ _=>(AF (K:=K) rfl (bP yad b⁻¹ aW (al 1) (aa (al 0) ac)) rfl))) ac))))),?_⟩
  ext;refine⟨g,v,a,d,p,c,rfl,Z,λl0 H1 _ _ S=>?_⟩;have L:=Z.up S;obtain⟨dx,sg,st,as,nm,k,hG,hgd,h24,ht,hg,Y⟩:=id L;obtain⟨e,o,m,G⟩:=hg.sh;refine⟨v,d,e,rfl,ht,o.mono Y,λl H2 hl0 U O=>?_⟩;ext;have M:=hG.up O;have hlen:e.length<262145:=by
   have h:=(o.mono Y).len;have:(2:Nat) ^ 18=262144:=by decide
   omega
  refine⟨⟨_,aO.of U⟩,?_⟩;refine gR (as:=e) (emb:=V.int) (f:=λi=>some (V.int (mO a i))) (λσ=>∃z,σ=[z,some (V.ref g)]) ⟨_,rfl⟩ (λH' s=>aO.of (s _ _ U)) ⋯ ?_ ?_
  ·rintro j i hj σ H' N1 N0 ⟨z0,rfl⟩ C k1 _
   obtain⟨hi0,hi1⟩:=G i (Me hj);obtain⟨n,rfl⟩:∃n:Nat,i=(n:Int):=⟨i.toNat,⋯⟩;have T:n<a.length:=by omega
   obtain⟨r,x⟩:∃r,a[n]?=some r:=⟨_,L_ T⟩;have B:=M.up C;obtain⟨lk,pn,t,ha,hkk,u,hN,hmm⟩:=id B;have I:n<as.length:=by rw[u.1];exact T
   obtain⟨b,y⟩:∃b,as[n]?=some b:=⟨_,L_ I⟩;obtain⟨rdx,rl,D,hrl⟩:=u.2 n b r y x;ext;refine⟨_,_,ha,rfl,g,dx,sg,st,as,a,n,b,rfl,B,y,_,rfl,_,_,_,D,(rk.icls r.1).cl,(rk.name r.1).2.1,_,(i9 rl r.2 r.1).2.1,k1 _ _ _ ?_ C ⟨_,rfl⟩⟩;unfold mO;rw[Mj,x]
  ·intro H3 C l2 J
   rw[DW e _ (g:=λi=>V.int (mO a i)) (λ_ _=>rfl)];refine⟨e.map (mO a),by rw[Mp];exact aO.of ad,?_⟩;rw[m];exact q _ (((S.trans O).trans C).trans (ae J))
theorem iU{rs:Yaa}(h:∀r∈rs,df r):eC rs:=λq hq=>⟨(h q hq).k4,(h q hq).good.c1,(h q hq).good.c9⟩
inductive Sd(rs:Yaa):bB->TR->bJ->Prop
 |cell {n:Nat} {v:RV}:rs[n]?=some (0,v)->Sd rs (.n0 n) (v.n,1,1,v.c) [v.sg]
 |turn {n:Nat} {v:RV} {t:bB} {r c:Nat} {k:Int} {pc:bJ}:rs[n]?=some (3,v)->Sd rs t (v.o1,r,c,k) pc->Sd rs (.n1 n t) (v.n,if v.t%2=1 then c else r,if v.t%2=1 then r else c,v.c+k) (turned pc v.t.toNat)
 |beside {n:Nat} {v:RV} {t1 t2:bB} {r c1 c2:Nat} {k1 k2:Int} {q1 q2 pc:bJ}:rs[n]?=some (1,v)->Sd rs t1 (v.o1,r,c1,k1) q1->Sd rs t2 (v.o2,r,c2,k2) q2->eY 1 v [q1,q2]=some pc->Sd rs (.n2 n t1 t2) (v.n,r,c1+c2,v.c+(k1+k2)) pc
 |above {n:Nat} {v:RV} {t1 t2:bB} {r1 r2 c:Nat} {k1 k2:Int} {q1 q2 pc:bJ}:rs[n]?=some (2,v)->Sd rs t1 (v.o1,r1,c,k1) q1->Sd rs t2 (v.o2,r2,c,k2) q2->eY 2 v [q1,q2]=some pc->Sd rs (.n2 n t1 t2) (v.n,r1+r2,c,v.c+(k1+k2)) pc
theorem oR{p:bJ}(h1:fb p1 r c)(h2:fb p2 r' c')(m:eY 1 v [p1,p2]=some p):r=r'/\fb p r (c+c'):=by
 have l:=bC h1.rc h1.r0;have k:=bC h2.rc h2.r0;have e:=h1.rc.1;have b:=h2.rc.1;have a:(if p1.length=p2.length/\(p1.headD []).length+(p2.headD []).length<=6 then some (put2 p1 p2) else none)=some p:=m
 by_cases c0:p1.length=p2.length/\(p1.headD []).length+(p2.headD []).length<=6
 ·rw[q07 c0]at a
  cases a;rw[e,b,l,k]at c0;refine⟨c0.1,⟨⟨by unfold put2;rw[Mb,q0L,e,b];omega,λx g=>?_⟩,h1.r0,h1.r6,by have:=h1.c0;omega,c0.2⟩⟩;unfold put2 at g;obtain⟨y,j,rfl⟩:=MR.mp g;have:=List.of_mem_zip j;rw[Mx,h1.rc.2 _ this.1,h2.rc.2 _ this.2]
 ·rw[q06 c0]at a;cases a
theorem qk{p:bJ}(h1:fb p1 r c)(h2:fb p2 r' c')(m:eY 2 v [p1,p2]=some p):c=c'/\fb p (r+r') c:=by
 have j:=bC h1.rc h1.r0;have g:=bC h2.rc h2.r0;have e:=h1.rc.1;have b:=h2.rc.1;have a:(if(p1.headD []).length=(p2.headD []).length/\p1.length+p2.length<=6 then some (p1++p2) else none)=some p:=m
 by_cases c0:(p1.headD []).length=(p2.headD []).length/\p1.length+p2.length<=6
 ·rw[q07 c0]at a
  cases a;rw[e,b,j,g]at c0;refine⟨c0.1,⟨⟨by rw[Mx,e,b],λx hx=>?_⟩,by have:=h1.r0;omega,c0.2,h1.c0,h1.c6⟩⟩;rcases Mo.mp hx with hx | hx
  ·exact h1.rc.2 _ hx
  ·rw[h2.rc.2 _ hx];exact c0.1.symm
 ·rw[q06 c0]at a;cases a
theorem Ic{v:RV}(h0:0<=v.t):(v.t%2=1)↔¬ (v.t.toNat%2=0):=by omega
theorem BJ{v:RV}{pc:bJ}(h0:0<=v.t)(h:fb pc r c):fb (turned pc v.t.toNat) (if v.t%2=1 then c else r) (if v.t%2=1 then r else c):=by
 have hr:=xD h.rc h.r0 h.c0 v.t.toNat;have o:=Ic h0
 by_cases e:v.t.toNat%2=0
 ·rw[q07 e,q07 e]at hr
  rw[q06 (λz=>(o.mp z) e),q06 (λz=>(o.mp z) e)];exact⟨hr,h.r0,h.r6,h.c0,h.c6⟩
 ·rw[q06 e,q06 e]at hr
  rw[q07 (o.mpr e),q07 (o.mpr e)];exact⟨hr,h.c0,h.c6,h.r0,h.r6⟩
theorem Sd.pic{rs:Yaa}(hg:∀r∈rs,df r){t:bB}{p:TR}{pc:bJ}(h:Sd rs t p pc):fb pc p.2.1 p.2.2.1:=by
 induction h with
 | @cell n v e=>
  have:=nS (hg _ (Me e)).good.sg;exact⟨⟨rfl,λx a=>by rw[Mc.mp a];exact this⟩,(show 0<1 by decide),(show 1<=6 by decide),(show 0<1 by decide),(show 1<=6 by decide)⟩
 | @turn n v t r c k pc e _ ih=>exact BJ (hg _ (Me e)).good.t0 ih
 |beside e _ _ m ih1 ih2=>exact(oR ih1 ih2 m).2
 |above e _ _ m ih1 ih2=>exact(qk ih1 ih2 m).2
theorem Fi(r c:Nat):fw r c=fw c r:=by rw[iD,iD,Nat.mul_comm]
theorem Sd.low{rs:Yaa}(hg:∀r∈rs,df r){t:bB}{p:TR}{pc:bJ}(h:Sd rs t p pc):fw p.2.1 p.2.2.1<=p.2.2.2/\((t.cnt:Nat):Int)<=p.2.2.2:=by
 induction h with
 | @cell n v e=>
  have a:1<=v.c:=(hg _ (Me e)).good.c1;exact⟨by show fw 1 1<=v.c;rw[iD];simp;omega,by show((1:Nat):Int)<=v.c;omega⟩
 | @turn n v t r c k pc e _ ih=>
  have a:1<=v.c:=(hg _ (Me e)).good.c1;have h1:fw r c<=k:=ih.1;have h2:((t.cnt:Nat):Int)<=k:=ih.2;refine⟨?_,by show((t.cnt+1:Nat):Int)<=v.c+k;omega⟩;show fw (if v.t%2=1 then c else r) (if v.t%2=1 then r else c)<=v.c+k
  split
  ·rw[Fi];omega
  ·omega
 | @beside n v t1 t2 r c1 c2 k1 k2 q1 q2 pc e _ _ m ih1 ih2=>
  have a:1<=v.c:=(hg _ (Me e)).good.c1;have h1:fw r c1<=k1:=ih1.1;have h2:fw r c2<=k2:=ih2.1;have g:((t1.cnt:Nat):Int)<=k1:=ih1.2;have b:((t2.cnt:Nat):Int)<=k2:=ih2.2;refine⟨?_,by show((t1.cnt+t2.cnt+1:Nat):Int)<=v.c+(k1+k2);omega⟩;show fw r (c1+c2)<=v.c+(k1+k2);rw[iD]at h1 h2 ⊢;rw[Nat.mul_add];omega
 | @above n v t1 t2 r1 r2 c k1 k2 q1 q2 pc e _ _ m ih1 ih2=>
  have a:1<=v.c:=(hg _ (Me e)).good.c1;have h1:fw r1 c<=k1:=ih1.1;have h2:fw r2 c<=k2:=ih2.1;have g:((t1.cnt:Nat):Int)<=k1:=ih1.2;have b:((t2.cnt:Nat):Int)<=k2:=ih2.2;refine⟨?_,by show((t1.cnt+t2.cnt+1:Nat):Int)<=v.c+(k1+k2);omega⟩;show fw (r1+r2) c<=v.c+(k1+k2);rw[iD]at h1 h2 ⊢;rw[Nat.add_mul];omega
theorem bB.dep_cnt:∀t:bB,t.dep<=t.cnt
 | .n0 _=>My _
 | .n1 _ a=>by have:=bB.dep_cnt a;simp only[bB.dep,bB.cnt];omega
 | .n2 _ a b=>by have:=bB.dep_cnt a;have:=bB.dep_cnt b;simp only[bB.dep,bB.cnt];omega
theorem Sd.gr{t:bB}{pc:bJ}(h:Sd rs t p pc):Gr rs t.d p.1 pc p.2.2.2 t.dep:=by
 induction h with
 |cell e=>exact .cell e
 |turn e _ ih=>exact .turn e ih
 |beside e _ _ m ih1 ih2=>exact .pair (.inl rfl) e ih1 ih2 m
 |above e _ _ m ih1 ih2=>exact .pair (.inr rfl) e ih1 ih2 m
theorem Sd.node{rs:Yaa}(hg:∀r∈rs,df r){t:bB}{p:TR}{pc:bJ}(h:Sd rs t p pc):∃(n:Nat) (q:Nat×RV) (ps:List TR),t.i=(n:Int)/\rs[n]?=some q/\q.2.n=p.1/\ps.length=t.ps.length/\ps.length<=2/\(∀(i:Nat) t' p',t.ps[i]?=some t'->ps[i]?=some p'->∃pc',Sd rs t' p' pc'/\p'.2.2.2<p.2.2.2)/\ps∈cE q p.2.1 p.2.2.1 p.2.2.2:=by
 cases h with
 | @cell n v e=>
  refine⟨n,(0,v),[],rfl,e,rfl,rfl,by simp,λi t' p' h=>by simp[bB.ps]at h,?_⟩;show[]∈(if 1=1/\1=1/\v.c=v.c then[[]] else[]);simp
 | @turn n v t r c k pc e s=>
  have l:1<=v.c:=(hg _ (Me e)).good.c1;refine⟨n,(3,v),[(v.o1,r,c,k)],rfl,e,rfl,rfl,by simp,λi t' p' h1 h2=>?_,?_⟩
  ·match i,h1,h2 with
   |0,h1,h2=>cases h1;cases h2;exact⟨_,s,by show k<v.c+k;omega⟩
   |i+1,h1,_=>simp[bB.ps]at h1
  ·show[(v.o1,r,c,k)]∈[[(v.o1,(if v.t%2=1 then(if v.t%2=1 then r else c) else(if v.t%2=1 then c else r)),(if v.t%2=1 then(if v.t%2=1 then c else r) else(if v.t%2=1 then r else c)),v.c+k-v.c)]]
   by_cases o:v.t%2=1<;>simp[o]<;>omega
 | @beside n v t1 t2 r c1 c2 k1 k2 q1 q2 pc e s1 s2 m=>
  have l:1<=v.c:=(hg _ (Me e)).good.c1;have a:=(s1.low hg).1;have j:=(s2.low hg).1;have g:=s1.pic hg;have b:=s2.pic hg;have w:1<=fw r c1:=cq g.r0 g.c0;have u:1<=fw r c2:=cq b.r0 b.c0;have a:fw r c1<=k1:=a;have j:fw r c2<=k2:=j;refine⟨n,(1,v),[(v.o1,r,c1,k1),(v.o2,r,c2,k2)],rfl,e,rfl,rfl,by simp,λi t' p' h1 h2=>?_,?_⟩
  ·match i,h1,h2 with
   |0,h1,h2=>cases h1;cases h2;exact⟨_,s1,by show k1<v.c+(k1+k2);omega⟩
   |1,h1,h2=>cases h1;cases h2;exact⟨_,s2,by show k2<v.c+(k1+k2);omega⟩
   |i+2,h1,_=>simp[bB.ps]at h1
  ·show _∈bt v.o1 v.o2 (fB r (c1+c2)) (v.c+(k1+k2)-v.c)
   have h1:=g.c0;have h2:=b.c0;simp only at h1 h2;refine List.mem_flatMap.mpr ⟨((r,c1),(r,c2)),MR.mpr ⟨c1-1,List.mem_range.mpr ⋯,?_⟩,MR.mpr ⟨k1,oB.mpr ⟨a,by show k1<v.c+(k1+k2)-v.c-fw r c2+1;omega⟩,?_⟩⟩
   ·rw[show 1+(c1-1)=c1 by omega,show c1+c2-c1=c2 by omega]
   ·rw[show v.c+(k1+k2)-v.c-k1=k2 by omega]
 | @above n v t1 t2 r1 r2 c k1 k2 q1 q2 pc e s1 s2 m=>
  have l:1<=v.c:=(hg _ (Me e)).good.c1;have a:=(s1.low hg).1;have j:=(s2.low hg).1;have g:=s1.pic hg;have b:=s2.pic hg;have w:1<=fw r1 c:=cq g.r0 g.c0;have u:1<=fw r2 c:=cq b.r0 b.c0;have a:fw r1 c<=k1:=a;have j:fw r2 c<=k2:=j;refine⟨n,(2,v),[(v.o1,r1,c,k1),(v.o2,r2,c,k2)],rfl,e,rfl,rfl,by simp,λi t' p' h1 h2=>?_,?_⟩
  ·match i,h1,h2 with
   |0,h1,h2=>cases h1;cases h2;exact⟨_,s1,by show k1<v.c+(k1+k2);omega⟩
   |1,h1,h2=>cases h1;cases h2;exact⟨_,s2,by show k2<v.c+(k1+k2);omega⟩
   |i+2,h1,_=>simp[bB.ps]at h1
  ·show _∈bt v.o1 v.o2 (fE (r1+r2) c) (v.c+(k1+k2)-v.c)
   have h1:=g.r0;have h2:=b.r0;simp only at h1 h2;refine List.mem_flatMap.mpr ⟨((r1,c),(r2,c)),MR.mpr ⟨r1-1,List.mem_range.mpr ⋯,?_⟩,MR.mpr ⟨k1,oB.mpr ⟨a,by show k1<v.c+(k1+k2)-v.c-fw r2 c+1;omega⟩,?_⟩⟩
   ·rw[show 1+(r1-1)=r1 by omega,show r1+r2-r1=r2 by omega]
   ·rw[show v.c+(k1+k2)-v.c-k1=k2 by omega]
theorem FO{rs:Yaa}{p:TR}{n:Nat}{q:Nat×RV}{ps:List TR}(hq:rs[n]?=some q)(hn:q.2.n=p.1)(hps:ps∈cE q p.2.1 p.2.2.1 p.2.2.2)(h0:0<aZ (CN rs) ps)(hf:fw p.2.1 p.2.2.1<=p.2.2.2):(n,ps,aZ (CN rs) ps)∈aY rs p:=by
 unfold aY;rw[q06 ⋯];refine List.mem_flatMap.mpr ⟨n,?_,?_⟩
 ·unfold bQ
  exact List.mem_filterMap.mpr ⟨(q,n),List.mem_zipIdx_iff_getElem?.mpr hq,by rw[q07 (by rw[hn])]⟩
 ·unfold cQ
  rw[hq];exact List.mem_filterMap.mpr ⟨ps,hps,by rw[q07 h0]⟩
abbrev oq:Stmt:=gZ 12
inductive qA(K:W.Frag)(vs:List V)(H:Hp)(Q:VK)(_E:XK):Prop
 |mk (a:Addr) (p:bJ) (r c:Nat) (_:vs=[.ref a]) (_:aO K H a (aH p)) (_:fJ p r c) (_:0<r) (_:c<=64) (_:∀(tp:Addr) (H':Hp),H tp=none->H' tp=some (.tup [V.int (r:Int),V.int (c:Int)])->aD H H'->Q (.ref tp) H')
theorem xS:ay ["picture"] ["picture"] (ak oq):=by walk_at "c"
theorem x4{f:Addr}(F:cu K "size_of" "size_of" oq f fd)(nb:NB mg):↑aT 1 f fd ["picture"] (qA K):=by
 have sc:=xS;walk_at "f"
 ·obtain⟨a,p,r,c,rfl,l,k,g,hc1,q⟩:=h
  refine⟨_,(ai (aF (aN (aa (aC aV rfl nb.len aR (aa (al 0) ac)) (aa n⁻¹ ac))))),?_⟩;ext;obtain⟨j,e⟩:=dS k g;refine⟨_,l,_,l,_,a_ (bc j),_,rfl,by rw[av];exact am ⋯,am ⋯,λm b=>?_⟩;rw[ar,k.1,av,e];exact q m _ b ad (ae b)
abbrev rE:Stmt:=gZ 42
inductive nL(R:RC)(CG:Addr)(vs:List V)(H:Hp)(Q:VK)(_E:XK):Prop
 |mk (g:Addr) (v:V) (rs:Yaa) (t:bB) (p:TR) (pc:bJ) (_:vs=[.ref g,v]) (_:oF R CG H g v rs t.d pc p.2.2.2) (_:Sd rs t p pc) (_:∀b H',H' b=some (.tup (ck p))->aD H H'->Q (.ref b) H')
theorem Bs:ay ["grammar","tree","size"] ["grammar","tree"] (ak rE):=by walk_at "c"
theorem Bt{f:Addr}(F:cu K "row_of" "row_of" rE f fd)(nb:NB mg)(rk:pi K R)(yad:↑b0 1 CG "rule" ["self","k"] (b8 R CG))(yaq:↑dO 24 "laid" ["grammar","tree"] (pP R CG))(ybb:↑dO 1 "size_of" ["picture"] (qA K))(ya0:↑dO 25 "cost_of" ["grammar","tree"] (qx R CG)):↑aT 26 f fd ["grammar","tree"] (nL R CG):=by
 have sc:=Bs;walk_at "f"
 ·obtain⟨g,v,y,t,p,D,rfl,O,sd,q⟩:=h
  refine⟨_,(af (q01 2 sc.nd (aJ ybb b⁻¹ rfl aW (aa (aJ yaq b⁻¹ rfl aW (aa (al 0) (aa (al 1) ac))) ac)))
   (ai (aF (au dZ (au dZ (aN (aa (bM (bP yad b⁻¹ aW (al 0) (aa e⁻¹ ac)) rfl) ac)) (al 2)) (aN (aa (aJ ya0 b⁻¹ rfl aW (aa (al 0) (aa (al 1) ac))) ac)))))),?_⟩
  have c:∀r∈y,df r:=by obtain⟨dx,U,T,B,nm,k,S,c,_⟩:=O;exact c
  have C:=sd.pic c;obtain⟨n,e,ps,hi,hq,hn,_⟩:=sd.node c;symm;refine⟨g,v,y,t.d,D,p.2.2.2,rfl,O,λl0 H1 _ e1 s1=>?_⟩;refine⟨l0,D,p.2.1,p.2.2.1,rfl,aO.of e1,C.rc,C.r0,by have:=C.c6;omega,λtp H2 _ e2 s2=>h1 _ _ ?_⟩;clear h1;have l:=s1.trans s2;have x:=O.up l;obtain⟨dx,U,T,B,nm',k',S,_,h24,ht,_,hd⟩:=id x;obtain⟨a,vs,rfl,G,htr⟩:=bB.val ht;obtain⟨lk,pn,t0,ha,hkk,m,hN,hmm⟩:=id S;have M:n<B.length:=by rw[m.1];exact(L'.mp hq).1
  obtain⟨b,u⟩:∃b,B[n]?=some b:=⟨_,L_ M⟩;obtain⟨rdx,rl,I,hrl⟩:=m.2 n b e u hq;ext;refine⟨_,_,ha,rfl,_,aS.of G,_,fU _ _,g,dx,U,T,B,y,n,b,by rw[hi],S,u,b,rfl,_,_,_,I,(rk.icls e.1).cl,(rk.name e.1).1,_,(i9 rl e.2 e.1).1,am nofun,λp1 L=>?_⟩;have s3:=ae (o:=.tup [V.str (tx e.2.n)]) L;refine iL (xs:=[V.str (tx e.2.n)]) ad (s3 _ _ e2) (by simp) (by simp) λp2 H4 e4 s4=>?_;have j:=s3.trans s4;refine⟨g,_,y,t.d,D,p.2.2.2,rfl,x.up j,λH5 Z=>⟨am nofun,λp3 J=>?_⟩⟩;have Y:=ae (o:=.tup [V.int p.2.2.2]) J;refine iL (Y _ _ (Z _ _ e4)) ad (by simp) (by simp) λp4 H7 e7 s7=>q p4 H7 ?_ ((l.trans j).trans ((Z.trans Y).trans s7));rw[e7,hn]
  rfl
theorem BZ(h:fA (ck p) (ck p')=true):p=p':=by
 obtain⟨a,r,c,k⟩:=p;obtain⟨q,e,o,g⟩:=p';unfold fA at h;have h:=(q0M _ _▸h).1;have b:∀j,j<4->_:=λj l=>MS.mp h j (List.mem_range.mpr l);have h1:tx a=tx q:=by have:=b 0 nofun;simpa[ck,nB]using this
 have h2:r=e:=by have:=b 1 nofun;simp[ck,nB]at this;omega
 have n:c=o:=by have:=b 2 nofun;simp[ck,nB]at this;omega
 have m:k=g:=by have:=b 3 nofun;simpa[ck,nB]using this
 have:=gM h1;subst this h2 n m
 rfl
theorem nU(p:TR):(ck p).all jy=true:=rfl
theorem Bg{ps ps':List TR}:pK (ps.map ck) (ps'.map ck)=true↔ps=ps':=by
 refine⟨λh=>?_,λh=>?_⟩
 ·unfold pK at h
  split at h
  ·rename_i hl
   rw[Mb,Mb]at hl;refine List.ext_getElem hl λi h1 h2=>?_;have:=MS.mp h i (List.mem_range.mpr (by rw[Mb];exact h1));rw[Md,Md,L_ h1,L_ h2]at this;exact BZ this
  ·cases h
 ·rw[h]
  refine tF λr hr=>?_;obtain⟨p,_,rfl⟩:=MR.mp hr;exact nU p
theorem HB.fl{ps:List TR}(h:HB H l ps):HV K H l (ps.map ck):=by
 obtain⟨bs,o,h1,h2,e⟩:=h;refine⟨bs,.inl (.inr ⟨o,h1⟩),by rw[Mb,h2],λi b r g a=>?_⟩;rw[Md]at a;obtain⟨p,c,rfl⟩:=MC.mp a;exact⟨aS.of (e i b p g c),nU p⟩
theorem p_.fl{ps:List TR}(h:p_ H l ps):HV K H l (ps.map ck):=by
 obtain⟨bs,h1,h2,e⟩:=h;refine⟨bs,aO.of h1,by rw[Mb,h2],λi b r g a=>?_⟩;rw[Md]at a;obtain⟨p,c,rfl⟩:=MC.mp a;exact⟨aS.of (e i b p g c),nU p⟩
theorem BQ{ps:List TR}{k j:Nat}{ts:List bB}{t:bB}(hl:ps.length<=1)(h1:(bK F ps)[k]?=some ts)(h2:(F p)[j]?=some t):(bK F (ps++[p]))[k*(F p).length+j]?=some (ts++[t]):=by
 have b:=(L'.mp h2).1
 match ps,hl,h1 with
 | [],_,h1=>
  have:k=0/\ts=[]:=by
   cases k with
   |zero=>exact⟨rfl,by simpa[bK]using h1.symm⟩
   |succ k=>simp[bK]at h1
  obtain⟨rfl,rfl⟩:=this;show(bK F [p])[0*(F p).length+j]?=_;rw[iQ,Nat.zero_mul,Nat.zero_add,h2]
  rfl
 | [p1],_,h1=>
  rw[iQ]at h1;obtain⟨t1,a,rfl⟩:=MC.mp h1;refine tZ (F:=F) ?_ ?_
  ·rw[Nat.add_comm,Nat.add_mul_div_right _ _ ⋯,Nat.div_eq_of_lt b,Nat.zero_add];exact a
  ·rw[Nat.add_comm,Nat.add_mul_mod_self_right,Nat.mod_eq_of_lt b];exact h2
theorem FA{q:Nat×RV}{p1 p2:TR}(h4:q.1<4)(hc:1<=q.2.c)(ok:fm p)(h:[p1,p2]∈cE q p.2.1 p.2.2.1 p.2.2.2):p1.2.2.2<=7\/p2.2.2.2<=7:=by
 have:=ok.k16;rcases dl h4 ok.r1 ok.c1 h with e | ⟨p',e,_⟩ | ⟨_,z,f,sz,f1,f2,e⟩
 ·cases e
 ·cases e
 ·cases e
  show f<=7\/p.2.2.2-q.2.c-f<=7;omega
theorem qT{α:Type}{l:List α}{i:Nat}{x:α}(h:l[i]?=some x):l.take (i+1)=l.take i++[x]:=by rw[q0E,h];rfl
abbrev bT:Stmt:=fz 41 7
inductive b7(R:RC)(CG CT:Addr)(n:Nat)(vs:List V)(H:Hp)(Q:VK)(_E:XK):Prop
 |mk (a dx g dg d1 d2:Addr) (sg st:M8) (as:Nb) (rs:Yaa) (m:Nat) (v:V) (t:bB) (p:TR) (pc:bJ) (_:vs=[.ref a,v]) (_:gW R CG CT H a dx g dg d1 d2 sg st as rs m) (_:aU H t.d v) (_:t.dep<=n) (_:(∀r∈rs,df r)) (_:Sd rs t p pc) (_:pW st rs m p) (_:∀(k:Nat) H',(RT rs p)[k]?=some t->bZ d1 d2 H H'->d8 st rs m H' d1 d2->Q (.int (k:Int)) H')
theorem jx:ay ["self","tree","rows","within","row","part","passed","number","others","many"] ["self","tree"] (ak bT):=by walk_at "c"
theorem pk{f CT yaa:Addr}{n:Nat}(hn:n<18)(F:cu K "number_in" "TreeRows.number_in" bT f fd)(nb:NB mg)(ct:fQ K CT)(nt:aq K CT "grammar"/\aq K CT "steps"/\aq K CT "totals")(yax:↑dO 26 "row_of" ["grammar","tree"] (nL R CG))
  (yaj:b0 P w K mg base (bN P w) 71 CT "steps_of" ["self","row"] (bS R CG CT yaa 17)) (yae:b0 P w K mg base (bN P w) 72 CT "many_in" ["self","row"] (bz R CG CT yaa 17)) (yaN:b0 P w K mg base (bN P w) (73+n) CT "number_in" ["self","tree"] (b7 R CG CT n)) :
  aT P w K mg base (bN P w) (73+n+1) f fd ["self","tree"] (b7 R CG CT (n+1)):=by
 have sc:=jx;walk_at "x"
 ·obtain⟨a,dx,g,dg,d1,d2,sg,st,as,C,m,v,t,p,pc,rfl,_⟩:=h;rfl
 ·obtain⟨a,dx,g,dg,d1,d2,sg,st,as,C,m,v,t,p,pc,rfl,r,ht,hd,a1,sd,dp,q⟩:=h
  have hu:=hr.units;refine⟨_,(af (gF (i:=2) ["part"] [0] sc.nd rfl (Or.inl rfl) rfl  rfl (bI.of i⁻¹) i⁻¹ (u7 (cX oM (al 1) (dN ah) fq))
    (λ_ _ _ _=>(ax (i:=0) (by show(["part","self"]:List Str).Nodup;decide +kernel) rfl (Or.inl rfl))) (λ_ _ _ _=>bW) (λ_ _ _ _=>(aJ (CX:=bN P w) yax.lift (hr.mono ⋯) rfl bq (aa (AF (K:=K) rfl (al 1) rfl) (aa (al 0) ac)))))
   (af (q01 3 sc.nd ah)
   (af (bD PassesOwn.leaving rfl (FV rfl nb.zip (aa (al 2) (aa (cX oM (al 1) (dN ah) fq) ac))) (fg (n:=2) rfl (aM (q02 4 sc.nd) (aM (q02 5 sc.nd) cz)))
   (ai (q01 3 sc.nd (au (bg.m0 bO) (au (bg.m1 fW) (al 3) (bP yae (hr.mono ⋯) (bh λ_ _ _ h=>h) (al 0) (aa (al 4) ac))) (bP yaN (hr.mono ⋯) (bh λ_ _ _ h=>h) (al 0) (aa (al 5) ac))))))
   (af (q01 6 sc.nd ah)
   (af (bD PassesOwn.leaving rfl (cv (bP yaj (hr.mono ⋯) (bh λ_ _ _ h=>h) (al 0) (aa (aJ (CX:=bN P w) yax.lift (hr.mono ⋯) rfl bq (aa (bM (al 0) rfl) (aa (al 1) ac))) ac))) (fg (n:=3) rfl (aM (q02 7 sc.nd) (aM (q02 8 sc.nd) (aM (q02 9 sc.nd) cz))))
   (af (bp (aE (Hy hu) (aN (aa (al 7) (aa (al 8) ac))) (aN (aa e⁻¹ (aa (al 2) ac))) (aI _))
   (ai EX)
   aK)
   (ai (q01 6 sc.nd (au (bg.m0 bO) (al 6) (al 9))))))
   (ai (aF (au (bg.m0 bO) (al 6) (al 3))))))))),?_⟩
  obtain⟨ta,vs,rfl,d3,b2⟩:=bB.val ht;obtain⟨nn,q0,ps,hi,hq,g3,g1,g2,g0,a0⟩:=sd.node a1;have hvl:=nE b2;have d5:=sd.low a1;have hdc:=t.dep_cnt;have k16:=dp.k16;have ok:=dp.row r.m6;obtain⟨q4,qc,qc9⟩:=r.gc q0 (Me hq);have hcut:t.cnt<=1000:=by omega
  have c3:∀(i:Nat) S,t.ps[i]?=some S->∃p' J,ps[i]?=some p'/\Sd C S p' J/\pW st C m p'/\p'.2.2.2<=15/\S.dep<=n/\S.cnt<=1000:=λi S G=>by
   have u:=(L'.mp G).1;have c:ps[i]?=some (ps[i]'⋯):=L_ ⋯;obtain⟨J,L,lt'⟩:=g0 i S _ G c;have hm:=bB.lt (Me G);have:=cq ok.r1 ok.c1;exact⟨_,J,c,L,(dp.part r.gc (Me hq) ⋯ a0 (Me c)).1,⋯,⋯,⋯⟩
  symm;refine⟨_,aS.of d3,mY _ _,λpt f8=>?_⟩;rw[Da];have s1:=ae (o:=.tup vs) f8;have e1:aA H pt (.tup vs) pt=some (.tup vs):=ad;generalize aA H pt (.tup vs)=H1 at s1 e1 ⊢;refine⟨⟨_,aS.of e1⟩,?_⟩;refine wH (xs:=vs) (λi O σ H'=>aD H1 H'/\i<=vs.length/\(∃bs:List Addr,O=bs.map V.ref/\bs.length=i/\∀(j:Nat) b p',bs[j]?=some b->ps[j]?=some p'->H' b=some (.tup (ck p')))/\∃z,σ=[z,some (V.ref a)])
   ⟨aD.refl _,Mz _,⟨[],rfl,rfl,λj b p' h=>by simp at h⟩,_,rfl⟩ (λi O σ H' h=>by obtain⟨_,h1,⟨bs,rfl,h2,_⟩,_⟩:=h;rw[Mb,h2];exact Mt (MI _) (am ⋯)) (λi O σ H' h=>h.2.1) (λi O σ H' h=>aS.of (h.1 _ _ e1)) ?_ ?_
  ·rintro i x O σ H2 hx ⟨sm,d6,⟨bs,rfl,b4,a6⟩,z,rfl⟩
   obtain⟨S,G,b1⟩:=oy b2 hx;obtain⟨p',J,c,L,M,_,d7,g5⟩:=c3 i S G;have s2:=s1.trans sm;ext;refine⟨CT,dx,_,s2 _ _ r.at_,ct.cl,nt.1,_,rfl,g,x,C,S,p',J,rfl,⟨dg,sg,st,as,_,_,r.gr.up s2,a1,r.n24,b1.up (dH.of s2) _,L.gr,⋯⟩,L,λb H5 hb s5=>⟨sm.trans s5,(L'.mp hx).1,bs++[b],by rw[Mn];rfl,by rw[Mx,b4];rfl,λj b' p2 e1 e2=>?_⟩⟩;rcases Nat.lt_or_ge j bs.length with hj | hj
   ·rw[Mw hj]at e1
    exact s5 _ _ (a6 j b' p2 e1 e2)
   ·have:j=bs.length:=by have:=(L'.mp e1).1;simp at this;omega
    subst this;rw[Mv (My _),Nat.sub_self]at e1;cases e1;rw[b4,c]at e2;cases e2;exact hb
  ·rintro O σ H2 ⟨sm,_,⟨bs,rfl,b4,a6⟩,z,rfl⟩ l hl
   refine h1 _ _ ?_;clear h1;have s2:=(s1.trans sm).trans (ae (o:=.lst (bs.map V.ref)) hl);have hT:p_ (aA H2 l (.lst (bs.map V.ref))) l ps:=⟨bs,ad,⋯,λi b p' e1 e2=>ae hl _ _ (a6 i b p' e1 e2)⟩;generalize aA H2 l (.lst (bs.map V.ref))=H3 at s2 hT ⊢;clear a6;symm;refine h1 _ _ ?_;grind;have a7:=s2 _ _ d3;refine⟨_,aS.of a7,mY _ _,λpu f7=>?_⟩;rw[Da];have s3:=ae (o:=.tup vs) f7;have e3:aA H3 pu (.tup vs) pu=some (.tup vs):=ad;generalize aA H3 pu (.tup vs)=H4 at s3 e3 ⊢;have a3:=s2.trans s3;have B:=r.up a3;have e4:=hT.kp (Kp.of s3);obtain⟨cs,d9,g6,g7⟩:=id e4;have c9:=aL.up (dH.of a3) _ b2;refine⟨_,aO.of d9,_,aS.of e3,?_⟩;refine BH (xs:=cs.map V.ref) (ys:=vs) (by rw[Mb];omega) (λi σ H'=>bZ d1 d2 H4 H'/\d8 st C m H' d1 d2/\i<=cs.length/\∃(U:Nat) (y z:Option V),(bK (RT C) (ps.take i))[U]?=some (t.ps.take i)/\σ=[some (V.ref a),some (V.ref ta),some (V.ref l),some (V.int (U:Int)),y,z,none,none,none,none])
    ⟨λ_ _ _ _ e=>e,B.mm,Mz _,0,_,_,by rw[M3,M3];rfl,rfl⟩ (λi σ H' _ h=>⟨aO.of ((B.kp h.1).lst d9),aS.of ((B.kp h.1).tup e3)⟩) ?_ ?_
   ·rintro i x y σ H5 T hx hy ⟨sD,mm,d6,U,z1,z2,D,rfl⟩ h5
    have u:i<cs.length:=by have:=(L'.mp hx).1;rwa [Mb]at this
    rw[Md,L_ u]at hx;cases hx;obtain⟨S,G,b1⟩:=oy c9 hy;obtain⟨p',J,c,L,M,hk15,d7,g5⟩:=c3 i S G;have hb:=g7 i cs[i] p' (L_ u) c;generalize cs[i]'u=b at hb ⊢;have sT:=ae (o:=.tup [V.ref b,y]) h5;have eT:aA H5 T (.tup [V.ref b,y]) T=some (.tup [V.ref b,y]):=ad;generalize aA H5 T (.tup [V.ref b,y])=H6 at sT eT ⊢;have I:=B.next sD mm;have a2:=I.up sT;have Y:bZ d1 d2 H4 H6:=sD.trans (.of sT);ext;have g4:i=0\/i=1:=by omega
    have e6:=cw r.gc (M.row r.m6);refine⟨_,aS.of eT,rfl,_,_,rfl,_,_,rfl,rfl,dx,_,a2.at_,rfl,a,dx,g,dg,d1,d2,b,sg,st,as,C,m,p',rfl,a2,(B.kp Y).tup hb,.inl ⟨M,nofun,⋯,λH7 s7 a4=>⟨_,rfl,?_,dx,_,(a2.next s7 a4).at_,rfl,a,dx,g,dg,d1,d2,sg,st,as,C,m,y,S,p',J,rfl,a2.next s7 a4,b1.up (λb xs e=>(B.kp (Y.trans s7)).tup e) _,d7,a1,L,M,λk H8 hk s8 f0=>⟨_,rfl,(Y.trans s7).trans s8,f0,u,U*CN C p'+k,?_,by push_cast;rfl⟩⟩⟩⟩
    ·rcases g4 with rfl | rfl
     ·left
      have:U=0:=by
       rw[M3]at D;cases U with
       |zero=>rfl
       |succ w=>simp[bK]at D
      omega
     ·obtain⟨p1,p2,rfl⟩:∃p1 p2,ps=[p1,p2]:=by
       match ps,g2,(show 1<ps.length by omega) with
       | [p1,p2],_,_=>exact⟨p1,p2,rfl⟩
      cases c;have c0:=(dp.part r.gc (Me hq) (by have:=cq ok.r1 ok.c1;omega) a0 (p':=p1) (by simp)).1;rcases FA q4 qc ok a0 with h | h
      ·left
       have h64:=r.sm p1 c0.rm c0.cm h;have hw:(bK (RT C) [p1])[U]?=some (t.ps.take 1):=D;rw[iQ]at hw;obtain⟨t1,f6,_⟩:=MC.mp hw;have:=(L'.mp f6).1;rw[cw r.gc (c0.row r.m6)]at this;omega
      ·right
       have:=r.sm _ M.rm M.cm h;omega
    ·rw[qT c,qT G,<- e6]
     exact BQ (by rw[MN];omega) D hk
   ·rintro σ H5 ⟨sD,mm,_,U,z1,z2,D,rfl⟩
    refine h1 _ _ ?_;grind;refine h1 _ _ ?_;grind;have I:=B.next sD mm;have f1:=B.kp sD;refine⟨dx,_,I.at_,rfl,CT,dx,_,I.at_,ct.cl,nt.1,_,rfl,g,_,C,t,p,pc,rfl,⟨dg,sg,st,as,_,_,I.gr,a1,r.n24,ht.up (λb xs e=>f1.tup (a3 _ _ e)) _,sd.gr,⋯⟩,sd,λb H6 hb s6=>?_⟩;refine⟨a,dx,g,dg,d1,d2,b,sg,st,as,C,m,p,rfl,I.up s6,hb,.inl ⟨dp,nofun,⋯,λl2 H7 s7 a4 _ hZ=>?_⟩⟩;have e8:bZ d1 d2 H H7:=(((bZ.of a3).trans sD).trans (.of s6)).trans s7;have e7:=(I.up s6).next s7 a4;have c2:=B.kp ((sD.trans (.of s6)).trans s7);have h4:=e4.kp c2;have d0:H7 ta=some (.tup (V.int t.i::vs)):=c2.tup (s3 _ _ a7);rw[Mb,g6,MM,show ps.length=t.ps.length from g1,MM]at D;have hsl:=n8 r.gc ok r.n24;obtain⟨ts,o,c6,f4,f5⟩:=id hZ;refine⟨l2,rfl,⟨_,.inl (.inr ⟨o,c6⟩)⟩,?_⟩;refine cM (xs:=ts.map V.ref) (λi σ H'=>aD H7 H'/\(i<=ts.length/\∀(j:Nat) s,j<i->(aY C p)[j]?=some s->¬ (s.1=nn/\s.2.1=ps))/\∃x y z,σ=[some (V.ref a),some (V.ref ta),some (V.ref l),some (V.int (U:Int)),z1,z2,some (V.int ((((aY C p).take i).map λs=>s.2.2).sum:Nat)),x,y,z])
     ⟨aD.refl _,⟨Mz _,λj s h=>q0O h ⋯⟩,_,_,_,rfl⟩ (λi σ H' _ h=>.inl (.inr ⟨o,h.1 _ _ c6⟩)) ?_ ?_
    ·rintro i x σ H8 hx ⟨s8,⟨d6,b3⟩,x1,y1,w1,rfl⟩
     have u:i<ts.length:=by have:=(L'.mp hx).1;rwa [Mb]at this
     rw[Md,L_ u]at hx;cases hx;obtain⟨Z,a5⟩:∃s,(aY C p)[i]?=some s:=⟨_,L_ ⋯⟩;obtain⟨rl,he,g8⟩:=f5 i _ Z (L_ u) a5;generalize ts[i]'u=t0 at he;have d4:=tQ (λs:vS=>s.2.2) _ _ _ a5;have e0:=g8.kz (Kp.of s8).z;have h3:=h4.kp (Kp.of s8);generalize f9:(((aY C p).take i).map λs=>s.2.2).sum=pas at d4;ext;refine⟨_,aS.of (s8 _ _ he),rfl,_,_,rfl,_,_,rfl,_,_,rfl,rfl,am nofun,λu1 f3=>?_⟩;have s9:=ae (o:=.tup [V.int (Z.1:Int),V.ref rl]) f3;have e9:aA H8 u1 (.tup [V.int (Z.1:Int),V.ref rl]) u1=some (.tup [V.int (Z.1:Int),V.ref rl]):=ad;generalize aA H8 u1 (.tup [V.int (Z.1:Int),V.ref rl])=H9 at s9 e9 ⊢;refine⟨_,aS.of (s9 _ _ (s8 _ _ d0)),_,fU _ _,am nofun,λu2 f2=>?_⟩;have a9:=ae (o:=.tup [V.int t.i,V.ref l]) f2;have e5:aA H9 u2 (.tup [V.int t.i,V.ref l]) u2=some (.tup [V.int t.i,V.ref l]):=ad;generalize aA H9 u2 (.tup [V.int t.i,V.ref l])=H10 at a9 e5 ⊢;have sA:=s9.trans a9;refine⟨_,_,_,aS.of (a9 _ _ e9),_,aS.of e5,_,(e0.kz (Kp.of sA).z).fl,_,(h3.kp (Kp.of sA)).fl,?_⟩;have c4:(decide ((Z.1:Int)=t.i)&&pK (Z.2.1.map ck) (ps.map ck))=true↔(Z.1=nn/\Z.2.1=ps):=by
      rw[q0M,q0X,Bg,hi];exact⟨λh=>⟨⋯,h.2⟩,λh=>⟨⋯,h.2⟩⟩
     by_cases hk:Z.1=nn/\Z.2.1=ps
     ·rw[q07 (c4.mpr hk)]
      refine h1 _ _ ?_;ext;have a8:=Ec r.gc ok a5 (j:=U) (ts:=t.ps) (by rw[hk.2];exact D);rw[f9,hk.1,<- hi,FY]at a8;have sB:=s8.trans sA;have:=q (pas+U) H10 a8 (e8.trans (.of sB)) (e7.up sB).mm
      push_cast at this
      exact this
     ·rw[q06 (λh=>hk (c4.mp h))]
      refine⟨_,rfl,s8.trans sA,u,λj s hj hs=>?_,by rw[d4];push_cast;rfl⟩;rcases Nat.lt_or_ge j i with h | h
      ·exact b3 j s h hs
      ·have:j=i:=by omega
       subst this;rw[a5]at hs;cases hs;exact hk
    ·rintro σ H8 ⟨_,⟨_,b3⟩,_⟩
     have h0:0<aZ (CN C) ps:=by
      have:=(L'.mp D).1;rw[gC (g:=CN C) λp' c=>cw r.gc ((dp.part r.gc (Me hq) (by have:=cq ok.r1 ok.c1;omega) a0 c).1.row r.m6)]at this;omega
     obtain⟨j,hj⟩:=List.getElem?_of_mem (FO hq g3 a0 h0 d5.1);exact q0O ⟨rfl,rfl⟩ (b3 j _ (by rw[Mb,f4];exact(L'.mp hj).1) hj)
theorem xx{f CT:Addr}(F:cu K "number_in" "TreeRows.number_in" bT f fd):aT P w K mg base (bN P w) 73 f fd ["self","tree"] (b7 R CG CT 0):=by
 have b:∀{vs:List V} {H:Hp} {Q:VK} {E:XK},¬ b7 R CG CT 0 vs H Q E:=λh=>by
  obtain⟨a,dx,g,dg,d1,d2,sg,st,as,rs,m,v,t,p,pc,_,_,_,h0,_⟩:=h;exact q0O t.dep1 ⋯
 exact F.okX (k:=72) (sp:=b7 R CG CT 0) jx (λvs H Q E h=>q0O h b) (λcdv A outer s H vs Q E hr h=>q0O h b)
theorem lV{f CT yaa:Addr}(F:cu K "number_in" "TreeRows.number_in" bT f fd)(nb:NB mg)(ct:fQ K CT)(nt:aq K CT "grammar"/\aq K CT "steps"/\aq K CT "totals")(me:cT K CT "number_in" f)(b:bR K fd ["self","tree"] [])(yax:↑dO 26 "row_of" ["grammar","tree"] (nL R CG))
  (yaj:b0 P w K mg base (bN P w) 71 CT "steps_of" ["self","row"] (bS R CG CT yaa 17)) (yae:b0 P w K mg base (bN P w) 72 CT "many_in" ["self","row"] (bz R CG CT yaa 17)) :
  ∀n,n<=18->b0 P w K mg base (bN P w) (73+n) CT "number_in" ["self","tree"] (b7 R CG CT n)
 |0,_=>⟨f,fd,xx F,ct.cl,me,b⟩
 |n+1,h=>⟨f,fd,pk ⋯ F nb ct nt yax yaj yae (lV F nb ct nt me b yax yaj yae n ⋯),ct.cl,me,b⟩
theorem yg{CT dg d1 d2:Addr}{st:M8}(gr:dU R H CG dg g sg st as rs)(ok:q8 st rs m)(s2:aD H H2)(n12:d1≠d2)(ex:H2 x=some (.ins CT dx (HY g d1 d2)))(ed1:H2 d1=some (.dT []))(ed2:H2 d2=some (.dT [])):gW R CG CT H2 x dx g dg d1 d2 sg st as rs m:=
 ⟨ex,n12,gr.up s2,ok.gc,ok.gt,ok.sm,ok.m6,ok.n24,ok.nz,[],[],ed1,ed2,⟨List.nodup_nil,List.nodup_nil,(λk h=>nomatch h),(λk h=>nomatch h),(λp h=>by cases h)⟩,λp v h=>by cases h⟩
abbrev oE:Stmt:=gZ 44
inductive rY(R:RC)(CG CN_ CU_:Addr)(vs:List V)(H:Hp)(Q:VK)(E:XK):Prop
 |mk (g dg:Addr) (sg st:M8) (as:Nb) (rs:Yaa) (m:Nat) (p:TR) (k:Int) (_:vs=[.ref g,.str (tx p.1),.int (p.2.1:Int),.int (p.2.2.1:Int),.int p.2.2.2,.int k]) (_:dU R H CG dg g sg st as rs) (_:q8 st rs m) (_:((pW st rs m p/\(∀(j:Nat) t,k=(j:Int)->(RT rs p)[j]?=some t->∀v H',aD H H'->aU H' t.d v->Q v H')/\((k<0\/(CN rs p:Int)<=k)->∀H',aD H H'->E (.ref CU_) none H'))\/(tx p.1∉(bo (tx st) rs).map (·.1)/\∀H',aD H H'->E (.ref CN_) none H')))
theorem zG:ay ["grammar","name","rows","columns","cost","k"] ["grammar","name","rows","columns","cost","k"] (ak oE):=by walk_at "c"
theorem zh{f CT yaa yac:Addr}(F:cu K "tree_at" "tree_at" oE f fd)(nb:NB mg)(ct:fQ K CT)(nt:aq K CT "grammar"/\aq K CT "steps"/\aq K CT "totals")
  (yal:↑lu 1 "TreeRows" CT ["self","grammar"] (fM K)) (yau:b0 P w K mg base (bN P w) 107 CT "tree_in" ["self","row","k"] (cg R CG CT yaa yac 17)) :
  aT P w K mg base (bN P w) 108 f fd ["grammar","name","rows","columns","cost","k"] (rY R CG yaa yac):=by
 have sc:=zG;walk_at "x"
 ·obtain⟨g,T,D,C,Z,G,m,p,k,rfl,_⟩:=h;rfl
 ·obtain⟨g,T,D,C,Z,G,m,p,k,rfl,gr,ok,cs⟩:=h
  have hu:=hr.units;refine⟨_,(ai (aF (bP yau b⁻¹ (bh λ_ _ _ h=>h) (gw yal b⁻¹ rfl aW (aa (al 0) ac)) (aa (aN (aa (al 1) (aa (al 2) (aa (al 3) (aa (al 4) ac))))) (aa (al 5) ac))))),?_⟩;ext;intro x l hx L J;have a:aD H (aA (aA H l (.own x)) x (.ins CT l [])):=(ae L).trans (ae (by rw[ao (Ne.symm J)];exact hx));refine⟨x,CT,l,g,rfl,ad,ct.cl,nt,λY U H2 f1 f2 I ex S O sx=>⟨rfl,l,_,ex,rfl,am nofun,λb hb=>?_⟩⟩;have s2:aD H H2:=λy u e=>sx y u (aG e hx) (a y u e);have B:=ae (o:=.tup (ck p)) hb;have c:=s2.trans B;have te:gW R CG CT (aA H2 b (.tup (ck p))) x l g T Y U D C Z G m:=yg gr ok c I (B _ _ ex) (B _ _ S) (B _ _ O);have r:∀{n},bZ Y U (aA H2 b (.tup (ck p))) n->aD H n:=λsd y u e=>sd y u (λz=>by rw[z,a.free f1]at e;cases e) (λz=>by rw[z,a.free f2]at e;cases e) (c y u e);refine⟨x,l,g,T,Y,U,b,D,C,Z,G,m,p,k,rfl,te,ad,nofun,?_⟩;rcases cs with⟨dp,q,bad⟩ | ⟨nn,M⟩
  ·exact .inl ⟨dp,by have:=dp.k16;omega,λj t hj ht v n sd mm hv=>q j t hj ht v n (r sd) hv,λhk n sd mm=>bad hk n (r sd)⟩
  ·exact .inr ⟨nn,M _ c⟩
abbrev ky:Stmt:=gZ 45
inductive m8(R:RC)(CG:Addr)(vs:List V)(H:Hp)(Q:VK)(_E:XK):Prop
 |mk (g dg:Addr) (sg st:M8) (as:Nb) (rs:Yaa) (m:Nat) (v:V) (t:bB) (p:TR) (pc:bJ) (_:vs=[.ref g,v]) (_:dU R H CG dg g sg st as rs) (_:q8 st rs m) (_:(∀r∈rs,df r)) (_:aU H t.d v) (_:Sd rs t p pc) (_:pW st rs m p) (_:∀(k:Nat) H',(RT rs p)[k]?=some t->aD H H'->Q (.int (k:Int)) H')
theorem vJ:ay ["grammar","tree"] ["grammar","tree"] (ak ky):=by walk_at "c"
theorem uy{f CT:Addr}(F:cu K "number_of" "number_of" ky f fd)(nb:NB mg)(ct:fQ K CT)(nt:aq K CT "grammar"/\aq K CT "steps"/\aq K CT "totals")
  (yaq:↑dO 24 "laid" ["grammar","tree"] (pP R CG)) (yal:↑lu 1 "TreeRows" CT ["self","grammar"] (fM K)) (yaN:b0 P w K mg base (bN P w) 89 CT "number_in" ["self","tree"] (b7 R CG CT 16)) :
  aT P w K mg base (bN P w) 90 f fd ["grammar","tree"] (m8 R CG):=by
 have sc:=vJ;walk_at "x"
 ·obtain⟨g,r,n,l,B,o,m,v,t,p,G,rfl,_⟩:=h;rfl
 ·obtain⟨g,r,n,l,B,o,m,v,t,p,G,rfl,gr,ok,c,ht,sd,dp,q⟩:=h
  have hu:=hr.units;refine⟨_,(af (br (aJ (CX:=bN P w) yaq.lift b⁻¹ rfl bq (aa (al 0) (aa (al 1) ac))))
   (ai (aF (bP yaN b⁻¹ (bh λ_ _ _ h=>h) (gw yal b⁻¹ rfl aW (aa (al 0) ac)) (aa (al 1) ac))))),?_⟩
  have hdc:=t.dep_cnt;have hlow:=(sd.low c).2;have:=dp.k16;symm;refine⟨g,v,o,t.d,G,p.2.2.2,rfl,⟨r,n,l,B,_,_,gr,c,ok.n24,ht,sd.gr,⋯⟩,λl0 Z _ e1 D=>h1 _ _ ?_⟩;clear h1;ext;intro x j hx L J;have a:aD Z (aA (aA Z j (.own x)) x (.ins CT j [])):=(ae L).trans (ae (by rw[ao (Ne.symm J)];exact hx));refine⟨x,CT,j,g,rfl,ad,ct.cl,nt,λU T Y f1 f2 I ex S O sx=>⟨rfl,j,_,ex,rfl,?_⟩⟩;have s2:aD Z Y:=λy u e=>sx y u (aG e hx) (a y u e);have b:=D.trans s2;have te:gW R CG CT Y x j g r U T n l B o m:=yg gr ok b I ex S O;have M:∀{C},bZ U T Y C->aD H C:=λsd y u e=>sd y u (λz=>by rw[z,(D.trans a).free f1]at e;cases e) (λz=>by rw[z,(D.trans a).free f2]at e;cases e) (b y u e);exact⟨x,j,g,r,U,T,n,l,B,o,m,v,t,p,G,rfl,te,ht.up (dH.of b) _,⋯,c,sd,dp,λk C hk sd mm=>q k C hk (M sd)⟩
theorem A0{CT yaa:Addr}{fd1 fd2 fd3 fd4:Nd}{t1:Tok}(F1:cu K "many_in" "TreeRows.many_in" b9 f1 fd1)(F2:cu K "steps_of" "TreeRows.steps_of" b_ f2 fd2)(F3:cu K "reckoned" "TreeRows.reckoned" ce f3 fd3)(F4:cu K "many_together" "TreeRows.many_together" bv f4 fd4)
  (nb:NB mg) (yak:mg "sum"=none) (yah:mg "MOST"=some (.int 6 t1)) (ct:fQ K CT) (nt:aq K CT "grammar"/\aq K CT "steps"/\aq K CT "totals") (me1:cT K CT "many_in" f1) (me2:cT K CT "steps_of" f2) (me3:cT K CT "reckoned" f3) (me4:cT K CT "many_together" f4)
  (b1:bR K fd1 ["self","row"] []) (b2:bR K fd2 ["self","row"] []) (b3:bR K fd3 ["self","row"] []) (b4:bR K fd4 ["self","rows"] [])
  (yai:↑dO 1 "fewest" ["size"] (iI K)) (yao:b0 P w K mg base (bN P w) 1 CG "numbers_of" ["self","name"] (cr R CG yaa)) (yad:↑b0 1 CG "rule" ["self","k"] (b8 R CG)) (yan:↑pG 3 "part_rows" (lT R)) :
  b0 P w K mg base (bN P w) 71 CT "steps_of" ["self","row"] (bS R CG CT yaa 17):=by
 have a:=kc F1 F2 F3 F4 nb yak yah ct nt me1 me2 me3 me4 b1 b2 b3 b4 yai yao yad yan 16;have b:b0 P w K mg base (bN P w) 69 CT "many_together" ["self","rows"] (cG R CG CT 16):=⟨f4,fd4,gg (n:=16) F4 nb a,ct.cl,me4,b4⟩;have c:b0 P w K mg base (bN P w) 70 CT "reckoned" ["self","row"] (fh R CG CT yaa 17):=⟨f3,fd3,jJ (n:=16) F3 nb yah ct nt yai yao yad yan b,ct.cl,me3,b3⟩;exact⟨f2,fd2,jQ (n:=16) F2 nb yak ct nt c,ct.cl,me2,b2⟩
abbrev nG:Stmt:=gZ 59
inductive pZ(K:W.Frag)(vs:List V)(H:Hp)(Q:VK)(_E:XK):Prop
 |mk (a:Addr) (ns:List Int) (b m:Nat) (_:vs=[.ref a,.int (b:Int),.int (m:Int)]) (_:aO K H a (ns.map V.int)) (_:b<=100) (_:1<=m) (_:m<=100) (_:∀(l:Addr) (cs:List Int) (H':Hp),H l=none->H' l=some (.lst (cs.map V.int))->1<=cs.length->cs.length<=m->aD H H'->Q (.ref l) H')
theorem y8:ay ["_law_script","_law_begin","_law_most","_law_many"] ["_law_script","_law_begin","_law_most"] (ak nG):=by walk_at "c"
theorem zi{f:Addr}(F:cu K "_law_cells" "_law_cells" nG f fd)(nb:NB mg)(zDa:↑dO 1 "_law_cell" ["_law_script","_law_k"] (oJ K)):↑aT 2 f fd ["_law_script","_law_begin","_law_most"] (pZ K):=by
 have sc:=y8;walk_at "f"
 ·obtain⟨a,u,b,m,rfl,y,hb,hm1,hm,q⟩:=h
  refine⟨_,(af (q01 3 sc.nd (au (bg.m0 fu) (al 2) (au (bg.m1 bu) (au (bg.m1 bj) (aJ zDa b⁻¹ rfl aW (aa (al 0) (bx ac))) (al 2)) ah)))
   (ai (aF (cH ["_law_k"] [0] rfl (bI.of i⁻¹) i⁻¹ (kG rfl nb.range (aa (al 1) (aa (au (bg.m0 bO) (al 1) (al 3)) ac)))
    (λ_ _ _ _=>(ax (i:=0) (by show(["_law_k","_law_script"]:List Str).Nodup;decide +kernel) rfl (Or.inl rfl))) (λ_ _ _ _=>bW) (λ_ _ _ _=>(aJ zDa b⁻¹ rfl aW (aa (al 1) (aa (al 0) ac)))))))),?_⟩
  symm;refine⟨a,u,62,rfl,y,⋯,λc=>⟨_,rfl,⋯,h1 _ _ ?_⟩⟩;clear h1;obtain⟨n,B⟩:∃n:Nat,(m:Int)-c%(m:Int)/2=(n:Int):=⟨((m:Int)-c%(m:Int)/2).toNat,by have:=MW c (b:=(m:Int)) ⋯;have:=MX c (b:=(m:Int)) ⋯;omega⟩;have hn2:1<=n/\n<=m:=by have:=MW c (b:=(m:Int)) ⋯;have:=MX c (b:=(m:Int)) ⋯;omega
  rw[B];ext;refine⟨⋯,⋯,⋯,⋯,?_⟩;rw[show((b:Int)+(n:Int)-(b:Int)).toNat=n by omega];refine fH (λi g σ o=>aD H o/\i<=n/\(∃j:List Int,g=j.map V.int/\j.length=i)/\∃z,σ=[z,some (V.ref a)]) ⟨λ_ _ e=>e,Mz _,⟨[],rfl,rfl⟩,_,rfl⟩ ?_ (λi g σ o h=>h.2.1) ?_ ?_
  ·rintro i g σ o ⟨_,x,⟨j,rfl,k⟩,_⟩
   rw[Mb,k];exact bf ⋯
  ·rintro i g σ o x ⟨p,_,⟨j,rfl,k⟩,z,rfl⟩
   ext;exact⟨a,u,b+i,by simp,p.seq y,⋯,λc=>⟨p,x,⟨j++[c],by simp,by simp[k]⟩⟩⟩
  rintro g σ H4 ⟨r,_,⟨j,rfl,k⟩,_⟩;intro l v;exact q l j _ (r.free v) ad ⋯ ⋯ (r.trans (ae v))
abbrev kC:Stmt:=gZ 65
inductive mX(R:RC)(CG:Addr)(vs:List V)(H:Hp)(Q:VK)(_E:XK):Prop
 |mk (l:Addr) (sg st:M8) (ts:Nb) (rs:Yaa) (_:vs=[.str (tx sg),.str (tx st),.ref l]) (_:fL H l ts rs) (_:(∀r∈rs,df r)) (_:rs.length<=24) (_:sg.length<=100) (_:st.length<=100) (_:ij sg st rs=none) (_:∀b db as H',dU R H' CG db b sg st as rs->aD H H'->Q (.ref b) H')
theorem vF:ay ["_law_signs_here","_law_start","_law_rules"] ["_law_signs_here","_law_start","_law_rules"] (ak kC):=by walk_at "c"
theorem u4{f zda:Addr}(F:cu K "_law_grammar" "_law_grammar" kC f fd)(nb:NB mg)(gk:JI K CG)(zHe:↑dO 6 "_law_rule" ["_law_rule_here"] (nV R))(zMc:lu P w K mg base (bN P w) 4 "Grammar" CG ["self","signs","start","rules"] (jm K R zda)):↑aT 7 f fd ["_law_signs_here","_law_start","_law_rules"] (mX R CG):=by
 have sc:=vF;walk_at "f"
 ·obtain⟨l,J,I,ts,M,rfl,o,C,hn,hsg,hst,U,q⟩:=h
  refine⟨_,(ai (aF (gw (CX:=bN P w) zMc b⁻¹ rfl bq (aa (pv 0) (aa (pv 1) (aa (cH ["_law_rule_here"] [] rfl (bI.of i⁻¹) i⁻¹ (cv (pv 2))
    (λ_ _ _ _=>(ax (i:=0) (by show(["_law_rule_here"]:List Str).Nodup;decide +kernel) rfl (Or.inl rfl))) (λ_ _ _ _=>bW) (λ_ _ _ _=>(aJ zHe b⁻¹ rfl aW (aa (pv 0) ac)))) ac)))))),?_⟩
  ext;refine⟨⟨_,aO.of o.1⟩,zw o C ⋯ λj m L S c B x k p g v=>?_⟩;have n:aD m (aA m c (.lst (j.map V.ref))):=ae B;have D:aA m c (.lst (j.map V.ref)) c=some (.lst (j.map V.ref)):=ad;generalize aA m c (.lst (j.map V.ref))=H3 at n D p g ⊢;have a:aD H3 (aA (aA H3 k (.own x)) x (.ins CG k [])):=(ae g).trans (ae (by rw[ao (Ne.symm v)];exact p));refine⟨x,CG,k,c,J,I,j,M,rfl,ad,gk.cl.cl,gk.na,⋯,⋯,a _ _ D,(S.up n).up a,λr hr=>(C r hr).k4,⋯,(λ_ Y lk pn t G T _ _ _=>⟨rfl,?_⟩),λy O=>nomatch O.symm.trans U⟩;exact q x k _ Y T.f ((L.trans n).trans λb u e=>G b u (aG e p) (a b u e))
abbrev mx:Stmt:=gZ 66
inductive jM(K:W.Frag)(vs:List V)(H:Hp)(Q:VK)(_E:XK):Prop
 |mk (a:Addr) (p:bJ) (r c t:Nat) (_:vs=[.ref a,.int (t:Int)]) (_:H a=some (.lst (aH p))) (_:fJ p r c) (_:0<r) (_:0<c) (_:r<=64) (_:c<=64) (_:t<8) (_:∀l H',H l=none->H' l=some (.lst (aH (turned p t)))->aD H H'->Q (.ref l) H')
theorem xg:ay ["_law_picture","_law_t","_law_turn","_law_rows","_law_column"] ["_law_picture","_law_t"] (ak mx):=by walk_at "c"
theorem wo{f:Addr}(F:cu K "_law_turned" "_law_turned" mx f fd)(nb:NB mg):↑aT 1 f fd ["_law_picture","_law_t"] (jM K):=by
 have sc:=xg;walk_at "f"
 ·obtain⟨a,p,r,c,t,rfl,hS,hp,hr0,hc0,hr1,hc1,ht,q⟩:=h
  refine⟨_,(af (bp (aE (bg.m0 ia) (al 1) ah (aI _))
   (ai (gF (i:=0) ["_law_row"] [] sc.nd rfl (Or.inl rfl) rfl  rfl (bI.of i⁻¹) i⁻¹ (cv (al 0))
    (λ_ _ _ _=>(ax (i:=0) (by show(["_law_row"]:List Str).Nodup;decide +kernel) rfl (Or.inl rfl))) (λ_ _ _ _=>bW) (λ_ _ _ _=>(rq rfl rfl nb.reversed (aa (al 0) ac)))))
   aK)
   (af (bD PassesOwn.never rfl (c7 rfl nb.range (aa (au (bg.m1 bj) (al 1) ah) ac)) (q02 2 sc.nd)
   (af (q01 3 sc.nd (bA ac))
   (af (bD PassesOwn.never rfl (c7 rfl nb.range (aa n⁻¹ ac)) (ax (i:=4) sc.nd rfl (Or.inr rfl))
   (ai (br (q03 (al 3) (aa (@DF _ _ _ _ _ _ _ _ (aa (cH ["_law_row"] [4] rfl (bI.of i⁻¹) i⁻¹ (zD rfl nb.reversed (aa (al 0) ac))
    (λ_ _ _ _=>(ax (i:=0) (by show(["_law_row","_law_column"]:List Str).Nodup;decide +kernel) rfl (Or.inl rfl))) (λ_ _ _ _=>bW) (λ_ _ _ _=>(az i_ (al 0) (al 1) (λ_ _=>rfl)))) ac) rfl rfl) ac)))))
   (ai (q01 0 sc.nd (al 3))))))
   (ai (aF (c_ cR rfl nb.list g_ (aa (al 0) ac)))))),?_⟩
  refine aj λN2 h2=>?_;have loop:∀(l2:Addr) (p':bJ) (H2:Hp) (y1 y2 y3:Option V),H2 l2=some (.lst (aH p'))->aD H H2->fJ p' r c->turned p t=bG (t%4) p'->N2 [some (V.ref l2),some (V.int t),y1,y2,y3] H2:=by
   intro l2 p' H2 y1 y2 y3 hH2 sm2 hp' et;refine h2 _ _ ?_;clear h2;refine aj λN3 h3=>?_;ext;refine⟨⋯,⋯,?_⟩;have e4:((t:Int)%4).toNat=t%4:=by omega
   rw[e4];refine dw (lo:=0) (n:=t%4) (λi σ H3=>∃(l3:Addr) (x1 x2 x3:Option V),σ=[some (V.ref l3),some (V.int t),x1,x2,x3]/\H3 l3=some (.lst (aH (bG i p')))/\aD H H3) ⟨l2,_,_,_,rfl,hH2,sm2⟩ ?_ ?_
   ·rintro i σ H3 hi ⟨l3,x1,x2,x3,rfl,h4,sm3⟩
    have hq:=dc i hp' hr0 hc0;obtain⟨r',c',g3,g4,g5,g6⟩:∃r' c',fJ (bG i p') r' c'/\0<r'/\r'<=64/\c'<=64:=by
     by_cases hi2:i%2=0
     ·rw[q07 hi2,q07 hi2]at hq;exact⟨r,c,hq,hr0,hr1,hc1⟩
     ·rw[q06 hi2,q06 hi2]at hq;exact⟨c,r,hq,hc0,hc1,hr1⟩
    have hqa:bG (i+1) p'=gq (bG i p'):=(mI 1 i p').symm;generalize bG i p'=pq at h4 g3 hqa;have hl0:0<pq.length:=by rw[g3.1];exact g4
    have hcc:(pq[0]).length=c':=g3.2 _ (Mi hl0);have hh:(pq.headD []).length=c':=bC g3 g4;rw[hqa];ext;refine⟨Mz _,λlr hlr=>?_⟩;have s4:=ae (o:=.lst []) hlr;have e4:aA H3 lr (.lst []) lr=some (.lst []):=ad;generalize aA H3 lr (.lst [])=H4 at s4 e4 ⊢;have h0:gj (aH pq) 0=some (V.str (tx pq[0])):=(show gj _ ((0:Nat):Int)=_ from a_ (bc hl0));refine⟨_,aO.of (s4 _ _ h4),_,h0,_,rfl,by rw[av];exact am ⋯,by rw[av];omega,by rw[av];omega,?_⟩;rw[av,hcc,Mj];refine dw (lo:=0) (n:=c') (λj σ H5=>aD H3 H5/\j<=c'/\H5 lr=some (.lst (aH ((List.range j).map (col pq))))/\∃y,σ=[some (V.ref l3),some (V.int t),some (V.int (i:Int)),some (V.ref lr),y]) ⟨s4,Mz _,e4,_,rfl⟩ ?_ ?_
    ·rintro j σ H5 hj ⟨s5,_,e5,y,rfl⟩
     have hl35:=s5 _ _ h4;ext;have hrow:∀x∈pq,x.length=c':=g3.2;have hpq:pq.length<=64:=by rw[g3.1];exact g5
     refine⟨.inl ⟨rfl,_,aO.of e5⟩,rfl,_,aO.of hl35,xh (xs:=aH pq) (λn acc σ H'=>H'=H5/\acc=((pq.reverse.take n).map λr=>V.str ⟨#[r.getD j 0]⟩)/\n<=pq.length/\∃x,σ=[x,some (.int (j:Int))]) ⟨rfl,rfl,Mz _,_,rfl⟩ ?_ ?_ ?_ ?_ ?_⟩
     ·rintro n acc σ H' ⟨_,rfl,_⟩
      refine bf ?_;rw[Mb,MN,Ms];omega
     ·rintro n acc σ H' ⟨_,_,h,_⟩
      rw[ar];exact h
     ·rintro n acc σ H' ⟨rfl,_⟩
      exact aO.of hl35
     ·rintro n x acc σ H' hx ⟨rfl,rfl,hn,y,rfl⟩
      have hl:n<pq.reverse.length:=by
       have:=(L'.mp hx).1
       rwa [Ms,ar,<- Ms (as:=pq)]at this
      have hx':(aH pq.reverse)[n]?=some x:=by unfold aH at hx ⊢;rwa [List.map_reverse]
      rw[bc hl]at hx';cases hx';have hm:pq.reverse[n]∈pq:=List.mem_reverse.mp (Mi hl);have hr:=hrow _ hm;ext;have hc:(tx pq.reverse[n]).cps.toList[j]?=some (pq.reverse[n].getD j 0):=by rw[dY,q0A,L_ ⋯];rfl
      refine⟨by rw[av];exact am ⋯,_,a_ hc,?_,by rw[Ms]at hl;exact hl⟩;rw[q0E,L_ hl,Mn]
      rfl
     ·rintro acc σ H' ⟨rfl,rfl,_⟩ l hl
      rw[ar,<- Ms (as:=pq),MM]at *;refine⟨(col pq j).map λc=>(⟨#[c]⟩:Str),.inl (aO.of ?_),?_,_,ae hl _ _ e5,?_,?_,hj,?_⟩
      ·rw[ad];unfold col;rw[Mp,Mp];rfl
      ·rw[Mp]
       have e:((λy:Str=>y.length)∘λc=>(⟨#[c]⟩:Str))=λ_=>1:=by funext c;rfl
       rw[e,List.map_const',List.sum_replicate_nat,Mb];have e0:(Str.ofString "").length=0:=rfl;rw[e0];unfold col;rw[Mb];omega
      ·rw[ar,Mb,q0H];exact bf ⋯
      ·exact eG (s5.trans (ae hl)) hlr
      ·rw[ad,iT,q0K,Mn]
       exact q0P (λz=>some (HO.lst z)) (eZ _ _).symm
    ·rintro σ H5 ⟨s5,_,e5,y,rfl⟩
     ext;refine⟨?_,sm3.trans s5⟩;rw[e5];unfold gq;rw[hh]
   ·rintro σ H3 ⟨l3,x1,x2,x3,rfl,h4,sm3⟩
    refine h3 _ _ ?_;ext;exact⟨_,.inl (aO.of h4),λl hl=>q l _ (sm3.free hl) (by rw[ad,et]) (sm3.trans (ae hl))⟩
  ext;have hpl:p.length=r:=hp.1
  split
  ·rename_i h4
   refine⟨⟨_,aO.of hS⟩,?_⟩;refine gR (as:=p) (emb:=λx=>V.str (tx x)) (f:=λx=>some (V.str (tx x.reverse))) (λσ=>∃x,σ=[x]) ⟨_,rfl⟩ (λH' sm=>aO.of (sm _ _ hS)) ⋯ ?_ ?_
   ·rintro i x hx σ H' M1 M0 ⟨y,rfl⟩ sm k1 k0
    ext;have hxl:x.length=c:=hp.2 x (Me hx);refine⟨by rw[av];omega,nofun,k1 _ _ _ ?_ sm ⟨_,rfl⟩⟩;rw[dY,iT]
   ·intro H' sm l hl
    rw[mH];have em:p.map (λx=>V.str (tx x.reverse))=aH (mirror p):=by unfold aH mirror;rw[Mp];rfl
    rw[em];refine loop l (mirror p) _ _ _ _ ad (sm.trans (ae hl)) (h_ hp) ?_;unfold turned;rw[q07 ⋯]
  ·rename_i h4
   refine loop a p H _ _ _ hS (aD.refl _) hp ?_;unfold turned;rw[q06 ⋯]
abbrev mF:Stmt:=gZ 67
inductive j9(vs:List V)(H:Hp)(Q:VK)(_E:XK):Prop
 |mk (a b:Addr) (p q:bJ) (r c r' c':Nat) (sd:Bool) (mo:Int) (_:vs=[.ref a,.ref b,.bl sd,.int mo]) (_:H a=some (.lst (aH p))) (_:H b=some (.lst (aH q))) (_:fb p r c) (_:fb q r' c') (_:mo<=6) (_:(∀pc,(∀v:RV,eY (if sd then 1 else 2) v [p,q]=some pc)->cN H pc Q)) (_:∀H',(mo=6->∀v:RV,eY (if sd then 1 else 2) v [p,q]=none)->aD H H'->Q .non H')
theorem xz:ay ["_law_one","_law_other","_law_side","_law_most"] ["_law_one","_law_other","_law_side","_law_most"] (ak mF):=by walk_at "c"
theorem wm{f:Addr}(F:cu K "_law_joined" "_law_joined" mF f fd)(nb:NB mg):↑aT 1 f fd ["_law_one","_law_other","_law_side","_law_most"] j9:=by
 have sc:=xz;walk_at "f"
 ·obtain⟨a,b,p,q,r,c,r',c',sd,mo,rfl,G,D,k,j,hmo,a2,no⟩:=h
  have hp:=k.rc;have hq:=j.rc;have:=k.r6;have:=k.c6;have:=j.r6;have:=j.c6;have J:=bC hp k.r0;have I:=bC hq j.r0;refine⟨_,(af (bp (PW.pt (iu (o6 (al 2) λ_=>rfl) (iu (aE dn (aC aV rfl nb.len aR (aa (al 0) ac)) (aC aV rfl nb.len aR (aa (al 1) ac)) (aI _)) (ig (aE (bg.m0 lQ) (au (bg.m0 bO) n⁻¹ (aC aP rfl nb.len aR (aa (az aQ (al 1) ah (λ_ _=>rfl)) ac))) (al 3) (aI _))))))
   (ai (aF (cH ["_law_left","_law_right"] [] rfl (bI.of i⁻¹) i⁻¹ (DA rfl nb.zip (aa (al 0) (aa (al 1) ac)))
    (λ_ _ _ _=>(pU (K:=K) (n:=2) rfl rfl (aM (ax (i:=0) (by show(["_law_left","_law_right"]:List Str).Nodup;decide +kernel) rfl (Or.inl rfl)) (aM (ax (i:=1) (by show(["_law_left","_law_right"]:List Str).Nodup;decide +kernel) rfl (Or.inl rfl)) cz)))) (λ_ _ _ _=>bW) (λ_ _ _ _=>(au fC (al 0) (al 1))))))
   aK)
   (af (bp (PW.pt (iu (lY (o6 (al 2) λ_=>rfl)) (iu (aE dn n⁻¹ (aC aP rfl nb.len aR (aa (az aQ (al 1) ah (λ_ _=>rfl)) ac)) (aI _)) (ig (aE (bg.m0 lQ) (au (bg.m0 bO) (aC aV rfl nb.len aR (aa (al 0) ac)) (aC aV rfl nb.len aR (aa (al 1) ac))) (al 3) (aI _))))))
   (ai (aF (au zQ (c_ cR rfl nb.list g_ (aa (al 0) ac)) (c_ cR rfl nb.list g_ (aa (al 1) ac)))))
   aK)
   (ai (aF fY)))),?_⟩
  obtain⟨a3,a0⟩:=dS hp k.r0;obtain⟨Y,u⟩:=dS hq j.r0;have m:p.length=r:=hp.1;have M:q.length=r':=hq.1;have h0:gj (aH p) 0=some (V.str (tx p[0])):=(show gj _ ((0:Nat):Int)=_ from a_ (bc a3));have a1:gj (aH q) 0=some (V.str (tx q[0])):=(show gj _ ((0:Nat):Int)=_ from a_ (bc Y));refine aj λN1 h1=>?_;have uZ:(sd=true->mo=6->∀v:RV,eY (if sd then 1 else 2) v [p,q]=none)->N1 [some (V.ref a),some (V.ref b),some (V.bl sd),some (V.int mo)] H:=λhn=>by
   refine h1 _ _ ?_;clear h1;refine aj λN1 h1=>?_;have uZ:(mo=6->∀v:RV,eY (if sd then 1 else 2) v [p,q]=none)->N1 [some (V.ref a),some (V.ref b),some (V.bl sd),some (V.int mo)] H:=λhn=>by
    refine h1 _ _ ?_;ext;exact no H hn (aD.refl _)
   clear h1;ext;cases sd with
   |true=>rw[q06 nofun];exact uZ (hn rfl)
   |false=>
    rw[q07 rfl];refine⟨_,aO.of G,_,h0,_,rfl,by rw[av];exact am ⋯,_,aO.of D,_,a1,_,rfl,by rw[av];exact am ⋯,?_⟩;rw[av,av,a0,u];refine dG (λt1=>?_) (λt9=>uZ (λh6 v=>by show(if(p.headD []).length=(q.headD []).length/\p.length+q.length<=6 then some (p++q) else none)=none;rw[J,I,q06 ⋯]));refine⟨_,aO.of G,_,aO.of D,?_⟩;rw[ar,ar,m,M];refine dG (λt2=>?_) (λt9=>uZ (λh6 v=>by show(if(p.headD []).length=(q.headD []).length/\p.length+q.length<=6 then some (p++q) else none)=none;rw[J,I,q06 ⋯]));refine⟨_,.inl (aO.of G),λl Z=>⟨_,.inl (aO.of (ae Z _ _ D)),λl1 U=>⟨_,ae U _ _ ad,_,ad,?_,λl2 S=>?_⟩⟩⟩
    ·rw[ar,ar];exact am ⋯
    have s3:=(ae (o:=.lst (aH p)) Z).trans (ae (o:=.lst (aH q)) U);refine a2 (p++q) (λv=>?_) l2 _ (gu s3 S) ?_ (s3.trans (ae S))
    ·show(if(p.headD []).length=(q.headD []).length/\p.length+q.length<=6 then some (p++q) else none)=some (p++q)
     rw[J,I,q07 ⋯]
    ·rw[ad];unfold aH;rw[Mn]
  clear h1;ext;cases sd with
  |false=>rw[q06 nofun];exact uZ (λh=>nomatch h)
  |true=>
   rw[q07 rfl];refine⟨_,aO.of G,_,aO.of D,?_⟩;rw[ar,ar,m,M];refine dG (λt1=>?_) (λt9=>uZ (λ_ h6 v=>by show(if p.length=q.length/\(p.headD []).length+(q.headD []).length<=6 then some (put2 p q) else none)=none;rw[J,I,q06 ⋯]));refine⟨_,aO.of G,_,h0,_,rfl,by rw[av];exact am ⋯,_,aO.of D,_,a1,_,rfl,by rw[av];exact am ⋯,?_⟩;rw[av,av,a0,u];refine dG (λt2=>?_) (λt9=>uZ (λ_ h6 v=>by show(if p.length=q.length/\(p.headD []).length+(q.headD []).length<=6 then some (put2 p q) else none)=none;rw[J,I,q06 ⋯]));refine⟨_,aO.of G,_,aO.of D,?_⟩;have O:q.length=r:=by omega
   have R:(put2 p q).length=r:=by unfold put2;rw[Mb,q0L,m,O,Nat.min_self]
   refine xq (xs:=aH p) (ys:=aH q) (n:=r) (by rw[ar,ar,m,O,Nat.min_self]) (λi g σ L=>aD H L/\g=aH ((put2 p q).take i)/\i<=r/\∃y z,σ=[y,z]) ⟨λ_ _ e=>e,rfl,Mz _,_,_,rfl⟩ ?_ ?_ ?_ ?_ ?_
   ·rintro i g σ L ⟨_,rfl,hi,_⟩
    rw[ar,MN];exact bf ⋯
   ·rintro i g σ L ⟨_,_,h,_⟩
    exact h
   ·rintro i g σ L ⟨B,_⟩
    exact⟨aO.of (B _ _ G),aO.of (B _ _ D)⟩
   ·rintro i x y g σ L T hx hy ⟨B,rfl,_,y1,z1,rfl⟩ hT
    have hi:i<p.length:=by have:=(L'.mp hx).1;rwa [ar]at this
    have C:i<q.length:=by omega
    rw[bc hi]at hx;rw[bc C]at hy;cases hx;cases hy;have hrow:=hp.2 _ (Mi hi);have ydu:=hq.2 _ (Mi C);ext;refine⟨_,aS.of ad,rfl,_,_,rfl,_,_,rfl,rfl,?_⟩;have e:(put2 p q)[i]?=some (p[i]++q[i]):=by
     unfold put2;simp[List.getElem?_zip_eq_some,hi,C];exact⟨_,_,⟨rfl,rfl⟩,rfl⟩
    have et:tx p[i]++tx q[i]=tx (p[i]++q[i]):=by
     show(⟨_++_⟩:Str)=⟨_⟩;simp[tx]
    refine⟨_,rfl,_,rfl,by rw[av,av];exact am ⋯,B.trans (ae hT),?_,⋯⟩;rw[et,q0E,e];exact(eZ _ _).symm
   ·rintro g σ L ⟨B,rfl,_⟩ l Z
    refine a2 (put2 p q) (λv=>?_) l _ (B.free Z) ?_ (B.trans (ae Z))
    ·show(if p.length=q.length/\(p.headD []).length+(q.headD []).length<=6 then some (put2 p q) else none)=some (put2 p q)
     rw[J,I,q07 ⋯]
    ·rw[ad,<- R,MM]
structure oY(r' r:Nat×RV):Prop where
 k:r'.1=r.1
 sg:r.1=0->r'.2.sg=r.2.sg
 o1:r.1≠0->r'.2.o1=r.2.o1
 o2:r.1=1\/r.1=2->r'.2.o2=r.2.o2
 t:r.1=3->r'.2.t=r.2.t
theorem oY.rfl'(r:Nat×RV):oY r r:=⟨rfl,λ_=>rfl,λ_=>rfl,λ_=>rfl,λ_=>rfl⟩
def dr(r:Nat×RV):List V:=match r.1 with
 |0=>[.int 0,.str (tx r.2.sg),.str ""]
 |1=>[.int 1,.str (tx r.2.o1),.str (tx r.2.o2)]
 |2=>[.int 2,.str (tx r.2.o1),.str (tx r.2.o2)]
 |_=>[.int 3,.str (tx r.2.o1),.int r.2.t]
theorem tM(r:Nat×RV):lX (fX r) (some 2) none=dr r:=by
 obtain⟨k,v⟩:=r
 match k with
 |0=>rfl
 |1=>rfl
 |2=>rfl
 |k+3=>rfl
theorem qm(r:Nat×RV):(dr r).all jy=true:=by
 obtain⟨k,v⟩:=r
 match k with
 |0=>rfl
 |1=>rfl
 |2=>rfl
 |k+3=>rfl
theorem xa(r:Nat×RV):¬ (HT.sIx (fX r).length 0 (some 2)=0/\HT.sIx (fX r).length (fX r).length none=(fX r).length):=by
 obtain⟨k,v⟩:=r
 match k with
 |0=>exact λh=>by cases h.1
 |1=>exact λh=>by cases h.1
 |2=>exact λh=>by cases h.1
 |k+3=>exact λh=>by cases h.1
theorem jd(h:nB (.str a) (.str b)=true):a=b:=by
 have c:(a==b)=true:=h;exact eq_of_beq c
theorem nw{a b:Int}(h:nB (.int a) (.int b)=true):a=b:=by
 have c:(a==b)=true:=h;exact eq_of_beq c
theorem gJ{x y z x' y' z':V}(h:fA [x,y,z] [x',y',z']=true):nB x x'=true/\nB y y'=true/\nB z z'=true:=by
 have a:(([0,1,2]:List Nat).all (λj=>match([x,y,z]:List V)[j]?,([x',y',z']:List V)[j]? with | some x,some y=>nB x y | _,_=>true)&&true)=true:=h
 simpa using a
theorem wv(r:Nat×RV)(h4:r.1<4):∃y z,dr r=[.int (r.1:Int),y,z]:=by
 obtain⟨k,v⟩:=r;rcases kE h4 with h | h | h | h<;>(simp only at h;subst h;exact⟨_,_,rfl⟩)
theorem DN{r' r:Nat×RV}(h4':r'.1<4)(h4:r.1<4)(he:fA (dr r') (dr r)=true):oY r' r:=by
 have c:r'.1=r.1:=by
  obtain⟨y,z,e⟩:=wv r h4;obtain⟨y',z',g⟩:=wv r' h4';rw[e,g]at he;have:=nw (gJ he).1;omega
 obtain⟨b,a⟩:=r';obtain⟨k,v⟩:=r;have e:b=k:=c;subst e;rcases kE h4 with h | h | h | h<;>(simp only at h;subst h)
 ·have:=gJ (show fA [.int 0,.str (tx a.sg),.str ""] [.int 0,.str (tx v.sg),.str ""]=true from he)
  exact⟨rfl,λ_=>gM (jd this.2.1),λh=>q0O rfl h,λh=>(by rcases h with h | h<;>cases h),λh=>(by cases h)⟩
 ·have:=gJ (show fA [.int 1,.str (tx a.o1),.str (tx a.o2)] [.int 1,.str (tx v.o1),.str (tx v.o2)]=true from he)
  exact⟨rfl,λh=>(by cases h),λ_=>gM (jd this.2.1),λ_=>gM (jd this.2.2),λh=>(by cases h)⟩
 ·have:=gJ (show fA [.int 2,.str (tx a.o1),.str (tx a.o2)] [.int 2,.str (tx v.o1),.str (tx v.o2)]=true from he)
  exact⟨rfl,λh=>(by cases h),λ_=>gM (jd this.2.1),λ_=>gM (jd this.2.2),λh=>(by cases h)⟩
 ·have:=gJ (show fA [.int 3,.str (tx a.o1),.int a.t] [.int 3,.str (tx v.o1),.int v.t]=true from he)
  exact⟨rfl,λh=>(by cases h),λ_=>gM (jd this.2.1),λh=>(by rcases h with h | h<;>cases h),λ_=>nw this.2.2⟩
structure SI where
 t:bB
 nm:List Nat
 p:bJ
 c:Int
structure FI where
 a:Addr
 v:V
 lp:Addr
 x:SI
def FI.at(z:FI)(H:Hp):Prop:=H z.a=some (.tup [z.v,.str (tx z.x.nm),.ref z.lp,.int z.x.c])/\aU H z.x.t.d z.v/\H z.lp=some (.lst (aH z.x.p))/\z.x.p≠[]
theorem FI.at.up{z:FI}(h:z.at H)(s:aD H H'):z.at H':=⟨s _ _ h.1,h.2.1.up (dH.of s) _,s _ _ h.2.2.1,h.2.2.2⟩
def du(l:Addr)(H H':Hp):Prop:=∀y u,y≠l->H y=some u->H' y=some u
theorem du.of(s:aD H H'):du l H H':=λy u _ e=>s y u e
theorem du.trans(a:du l H H1)(b:du l H1 H2):du l H H2:=λy u n e=>b y u n (a y u n e)
theorem du.put:du l H (aA H l o):=λy u n e=>by rw[ao n];exact e
theorem du.tups(s:du l H H'){as:Nb}(hl:H l=some (.lst (as.map V.ref))):dH H H':=λb xs h=>s b _ (λz=>by rw[z,hl]at h;cases h) h
theorem FI.at.keep{z:FI}{as:Nb}(h:z.at H)(hl:H l=some (.lst (as.map V.ref)))(s:du l H H'):z.at H':=
 ⟨s.tups hl _ _ h.1,h.2.1.up (s.tups hl) _,s _ _ (yl hl h.2.2.1 h.2.2.2) h.2.2.1,h.2.2.2⟩
structure EB(rs:Yaa)(p:bJ)(lim:Int)(x:SI):Prop where
 sd:∃r c,Sd rs x.t (x.nm,r,c,x.c) x.p
 nm:x.nm∈p
 le:x.c<=lim
theorem Sd.more(r:Nat×RV){t:bB}{p:TR}{pc:bJ}(h:Sd rs t p pc):Sd (rs++[r]) t p pc:=by
 have up:∀{n:Nat} {x:Nat×RV},rs[n]?=some x->(rs++[r])[n]?=some x:=fun{n x} e=>by rw[Mw (L'.mp e).1];exact e
 induction h with
 |cell e=>exact .cell (up e)
 |turn e _ ih=>exact .turn (up e) ih
 |beside e _ _ m ih1 ih2=>exact .beside (up e) ih1 ih2 m
 |above e _ _ m ih1 ih2=>exact .above (up e) ih1 ih2 m
inductive Nx(r:Nat×RV):List SI->bJ->Prop
 |cell:r.1=0->Nx r [] [r.2.sg]
 |turn {x:SI}:r.1=3->x.nm=r.2.o1->Nx r [x] (turned x.p r.2.t.toNat)
 |pair {x y:SI} {pc:bJ}:(r.1=1\/r.1=2)->x.nm=r.2.o1->y.nm=r.2.o2->eY r.1 r.2 [x.p,y.p]=some pc->Nx r [x,y] pc
theorem Nx.sd{rs:Yaa}(hg:∀r∈rs,df r){n:Nat}{r r':Nat×RV}{ys:List SI}{pc:bJ}(h:Nx r ys pc)(e:rs[n]?=some r')(as:oY r' r)(hy:∀y∈ys,∃a c,Sd rs y.t (y.nm,a,c,y.c) y.p) :
  ∃a c,Sd rs (xP (n:Int) (ys.map SI.t)) (r'.2.n,a,c,r'.2.c+(ys.map SI.c).sum) pc:=by
 obtain⟨o,b⟩:=r';obtain⟨k,v⟩:=r;have C:o=k:=as.k;subst C;cases h with
 |cell h=>
  have h:o=0:=h;subst h;have:=as.sg rfl;have h1:Sd rs (.n0 n) (b.n,1,1,b.c) [b.sg]:=.cell e;rw[show b.sg=v.sg from this]at h1;have g:b.c=b.c+(([]:List SI).map SI.c).sum:=by simp
  rw[g]at h1;exact⟨_,_,h1⟩
 | @turn x h l=>
  have h:o=3:=h;subst h;obtain⟨a,c,s⟩:=hy x (by simp);have B:b.o1=v.o1:=as.o1 (show(3:Nat)≠0 by decide);have w:b.t=v.t:=as.t rfl;have l:x.nm=b.o1:=by rw[B];exact l
  rw[l]at s;have h1:=Sd.turn e s;rw[w]at h1;have g:x.c=([x].map SI.c).sum:=by simp
  rw[g]at h1;exact⟨_,_,h1⟩
 | @pair x y _ h l j m=>
  obtain⟨a,c,s⟩:=hy x (by simp);obtain⟨G,D,q⟩:=hy y (by simp);have l:x.nm=b.o1:=by rw[show b.o1=v.o1 from as.o1 (by rcases h with h | h<;>(have h:o=_:=h;subst h;exact λz=>by cases z))];exact l
  have j:y.nm=b.o2:=by rw[show b.o2=v.o2 from as.o2 h];exact j
  rw[l]at s;rw[j]at q;rcases h with h | h
  ·have h:o=1:=h
   subst h;have u:eY 1 b [x.p,y.p]=some pc:=m;have g:a=G:=(oR (s.pic hg) (q.pic hg) u).1;subst g;have h1:=Sd.beside e s q u;have g:x.c+y.c=([x,y].map SI.c).sum:=by simp
   rw[g]at h1;exact⟨_,_,h1⟩
  ·have h:o=2:=h
   subst h;have u:eY 2 b [x.p,y.p]=some pc:=m;have g:c=D:=(qk (s.pic hg) (q.pic hg) u).1;subst g;have h1:=Sd.above e s q u;have g:x.c+y.c=([x,y].map SI.c).sum:=by simp
   rw[g]at h1;exact⟨_,_,h1⟩
theorem Nx.ne{pc:bJ}(h:Nx r ys pc):ys.length<=2:=by cases h<;>simp
structure GS(H:Hp)(p:bJ)(sg:M8)(lim:Int)(lr ls:Addr)(ts:Nb)(rs:Yaa)(zs:List FI):Prop where
 rows:fL H lr ts rs
 ro:∀r∈rs,jw p sg r
 st:H ls=some (.lst (zs.map λz=>V.ref z.a))
 at_:∀z∈zs,z.at H
 good:∀z∈zs,EB rs p lim z.x
 ne:lr≠ls
theorem GS.up{lim:Int}{lr ls:Addr}(g:GS H p sg lim lr ls ts rs zs)(s:aD H H'):GS H' p sg lim lr ls ts rs zs:=
 ⟨g.rows.up s,g.ro,s _ _ g.st,λz hz=>(g.at_ z hz).up s,g.good,g.ne⟩
theorem GS.st'{lim:Int}{lr ls:Addr}(g:GS H p sg lim lr ls ts rs zs):H ls=some (.lst ((zs.map FI.a).map V.ref)):=by rw[Mp];exact g.st
theorem GS.row{lim:Int}{lr ls:Addr}(g:GS H p sg lim lr ls ts rs zs){t:Addr}{r:Nat×RV}(ht:H t=some (.tup (fX r)))(hr:jw p sg r):GS (aA H lr (.lst (ts.map V.ref++[V.ref t]))) p sg lim lr ls (ts++[t]) (rs++[r]) zs:=
 ⟨g.rows.app ht,λx hx=>by rcases Mo.mp hx with h | h;exact g.ro x h;rw[Mc.mp h];exact hr,by rw[ao g.ne.symm];exact g.st,λz hz=>(g.at_ z hz).keep g.rows.1 du.put,λz hz=>⟨let ⟨a,c,s⟩:=(g.good z hz).sd;⟨a,c,s.more r⟩,(g.good z hz).nm,(g.good z hz).le⟩,g.ne⟩
theorem GS.item{lim:Int}{lr ls:Addr}(g:GS H p sg lim lr ls ts rs zs){z:FI}(hz:z.at H)(hg:EB rs p lim z.x):GS (aA H ls (.lst (zs.map (λz=>V.ref z.a)++[V.ref z.a]))) p sg lim lr ls ts rs (zs++[z]):=by
 have b:du ls H (aA H ls (.lst (zs.map (λz=>V.ref z.a)++[V.ref z.a]))):=du.put;refine⟨⟨b _ _ g.ne g.rows.1,g.rows.2.1,λi t r j e=>b.tups g.st' _ _ (g.rows.2.2 i t r j e)⟩,g.ro,by rw[ad,Mn];rfl,λy c=>?_,λy c=>?_,g.ne⟩
 ·rcases Mo.mp c with h | h
  ·exact(g.at_ y h).keep g.st' b
  ·rw[Mc.mp h];exact hz.keep g.st' b
 ·rcases Mo.mp c with h | h
  ·exact g.good y h
  ·rw[Mc.mp h];exact hg
def EW(lr ls:Addr)(H H':Hp):Prop:=∀y u,y≠lr->y≠ls->H y=some u->H' y=some u
abbrev oN:Stmt:=gZ 68
inductive rg(vs:List V)(H:Hp)(Q:VK)(_E:XK):Prop
 |mk (l t:Addr) (b:Int) (ts:Nb) (rs:Yaa) (r:Nat×RV) (_:vs=[.ref l,.ref t,.int b]) (_:fL H l ts rs) (_:(∀x∈rs,x.1<4)) (_:H t=some (.tup (fX r))) (_:r.1<4) (_:rs.length<24) (_:(∀(k:Nat) r' H',0<b->rs[k]?=some r'->oY r' r->aD H H'->Q (.int (k:Int)) H')) (_:(∀H0,aD H H0->Q (.int (rs.length:Int)) (aA H0 l (.lst (ts.map V.ref++[V.ref t])))))
theorem yZ:ay ["_law_rules","_law_wanted","_law_again","_law_some"] ["_law_rules","_law_wanted","_law_again"] (ak oN):=by walk_at "c"
theorem ye{f:Addr}(F:cu K "_law_noted" "_law_noted" oN f fd)(nb:NB mg):↑aT 1 f fd ["_law_rules","_law_wanted","_law_again"] rg:=by
 have sc:=yZ;walk_at "f"
 ·obtain⟨l,t,b,q,m,r,rfl,c,a5,ht,a2,hl24,q1,q3⟩:=h
  have hu:=hr.units;refine⟨_,(af (gF (i:=3) ["_law_k","_law_rule_here"] [1] sc.nd rfl (Or.inl rfl) rfl  rfl (bI.of i⁻¹) i⁻¹ (pX rfl nb.enumerate (aa (al 0) ac))
    (λ_ _ _ _=>(pU (K:=K) (n:=2) rfl rfl (aM (ax (i:=0) (by show(["_law_k","_law_rule_here","_law_wanted"]:List Str).Nodup;decide +kernel) rfl (Or.inl rfl)) (aM (ax (i:=1) (by show(["_law_k","_law_rule_here","_law_wanted"]:List Str).Nodup;decide +kernel) rfl (Or.inl rfl)) cz)))) (λ_ _ _ _=>(Gf (aE (FG (K:=K) rfl hu) (cX (An (K:=K) rfl) (al 1) (dN ah) fq) (cX (An (K:=K) rfl) (al 2) (dN ah) fq) (aI _)))) (λ_ _ _ _=>(al 0)))
   (af (bp (PW.pt (iu (aE (bg.m0 ia) (al 2) ah (aI _)) (ig (aE (bg.m0 ia) (aC aV rfl nb.len aR (aa (al 3) ac)) ah (aI _)))))
   (ai (aF (az aQ (al 3) (au (bg.m1 bj) (au (bg.m0 fu) (al 2) ah) (aC aV rfl nb.len aR (aa (al 3) ac))) (λ_ _=>rfl))))
   aK)
   (af (br (q03 (al 0) (aa (al 1) ac)))
   (ai (aF (au (bg.m0 fu) (aC aV rfl nb.len aR (aa (al 0) ac)) ah)))))),?_⟩
  symm;refine⟨_,aO.of c.1,?_⟩;refine yA (as:=q.zip m) (emb:=λx=>V.ref x.1) (f:=λi x=>if fA (dr x.2) (dr r)=true then some (V.int (i:Int)) else none) (λσ=>∃x y,σ=[x,y,some (V.ref t)]) ⟨_,_,rfl⟩ (λG s'=>?_) (by rw[q0L,c.2.1];omega) ?_ ?_
  ·have z1:(q.zip m).map (λx=>V.ref x.1)=q.map V.ref:=by
    have e:=Mp (f:=Prod.fst) (g:=V.ref) (l:=q.zip m);rw[List.map_fst_zip (by have:=c.2.1;omega)]at e;exact e.symm
   rw[z1];exact aO.of (s' _ _ c.1)
  ·rintro i ⟨D,a⟩ hx σ G T M1 M0 ⟨y,z,rfl⟩ O hT k1 k0
   obtain⟨a0,p⟩:=List.getElem?_zip_eq_some.mp hx;ext;have a1:=O _ _ (c.2.2 i D a a0 p);have Y:=ae (o:=.tup [V.int (i:Int),V.ref D]) hT;have L:aA G T (.tup [V.int (i:Int),V.ref D]) T=some (.tup [V.int (i:Int),V.ref D]):=ad;generalize aA G T (.tup [V.int (i:Int),V.ref D])=H1 at Y L ⊢;have I:=O.trans Y;refine⟨_,aS.of L,rfl,_,_,rfl,_,_,rfl,rfl,D,rfl,_,aS.of (Y _ _ a1),xa a,λc1 a7=>?_⟩;rw[tM];have sC:=ae (o:=.tup (dr a)) a7;refine⟨_,aS.of (sC _ _ (I _ _ ht)),xa r,λc2 a6=>?_⟩;rw[tM];have sD:=ae (o:=.tup (dr r)) a6;refine⟨_,aS.of (sD _ _ ad),_,aS.of ad,qm a,qm r,?_⟩;have sE:=(I.trans sC).trans sD
   by_cases C:fA (dr a) (dr r)=true
   ·rw[q07 C]
    exact k1 _ _ _ (q07 C) sE ⟨_,_,rfl⟩
   ·rw[q06 C];exact k0 _ _ (q06 C) sE ⟨_,_,rfl⟩
  ·intro G O S a3
   have u:∀y∈(q.zip m).zipIdx.filterMap (λx=>if fA (dr x.1.2) (dr r)=true then some (V.int (x.2:Int)) else none),∃(k:Nat) (a:Nat×RV),y=V.int (k:Int)/\m[k]?=some a/\oY a r:=λy hy=>by
    obtain⟨⟨⟨t',a⟩,k⟩,hx,hf⟩:=List.mem_filterMap.mp hy;have Z:=List.mem_zipIdx_iff_getElem?.mp hx;obtain⟨_,p⟩:=List.getElem?_zip_eq_some.mp Z
    by_cases C:fA (dr a) (dr r)=true
    ·have j:(if fA (dr a) (dr r)=true then some (V.int (k:Int)) else none)=some y:=hf
     rw[q07 C]at j;exact⟨k,a,(q0Q j).symm,p,DN (a5 _ (Me p)) a2 C⟩
    ·have j:(if fA (dr a) (dr r)=true then some (V.int (k:Int)) else none)=some y:=hf
     rw[q06 C]at j;cases j
   have a4:((q.zip m).zipIdx.filterMap (λx=>if fA (dr x.1.2) (dr r)=true then some (V.int (x.2:Int)) else none)).length<=24:=by
    refine MG (List.length_filterMap_le ..) ?_;rw[List.length_zipIdx,q0L];omega
   generalize(q.zip m).zipIdx.filterMap (λx=>if fA (dr x.1.2) (dr r)=true then some (V.int (x.2:Int)) else none)=ys at u a4 ⊢;refine h1 _ _ ?_;clear h1;have R:=O.trans (ae (o:=.lst ys) a3);have U:aA G S (.lst ys) S=some (.lst ys):=ad;generalize aA G S (.lst ys)=H1 at R U ⊢;refine aj λN1 h1=>?_;have M:N1 [some (V.ref l),some (V.ref t),some (V.int b),some (V.ref S)] H1:=by
    refine h1 _ _ ?_;ext;have J:=R _ _ c.1;have B:(q.map V.ref).length=m.length:=by rw[Mb];exact c.2.1
    refine⟨.inl ⟨rfl,_,aO.of J⟩,_,J,?_,_,aO.of ad,?_⟩
    ·rw[B];exact bf ⋯
    ·have:=q3 H1 R
     rw[Mx,B];rw[show(((m.length+[V.ref t].length:Nat):Int)-1)=(m.length:Int) by simp];exact this
   ext;refine iN (λhb=>⟨_,aO.of U,iN (λhn=>?_) (λ_=>M)⟩) (λ_=>M);obtain⟨v,hv,ev⟩:=uO (xs:=ys) (MW (b-1) (show(ys.length:Int)≠0 by omega)) (MX _ ⋯);obtain⟨k,a,rfl,hk,a8⟩:=u v hv;exact⟨_,aO.of U,hn,_,aO.of U,_,ev,q1 k a _ hb hk a8 R⟩
abbrev uI:Stmt:=gZ 69
inductive mP(vs:List V)(H:Hp)(Q:VK)(_E:XK):Prop
 |mk (lr ls tw la tm lq:Addr) (b:Int) (ts:Nb) (rs:Yaa) (zs ys:List FI) (r:Nat×RV) (pc:bJ) (p:bJ) (sg:M8) (lim:Int) (_:vs=[.ref lr,.ref ls,.ref tw,.int b,.ref la,.ref tm]) (_:GS H p sg lim lr ls ts rs zs) (_:H tw=some (.tup (fX r))) (_:jw p sg r) (_:rs.length<24) (_:zs.length<=100) (_:H la=some (.lst (ys.map λz=>V.ref z.a))) (_:la≠lr) (_:la≠ls) (_:(∀y∈ys,y∈zs)) (_:H tm=some (.tup [.ref lq,.int lim])) (_:H lq=some (.lst (aH pc))) (_:pc≠[]) (_:Nx r (ys.map FI.x) pc) (_:∀H' ts' rs' zs',GS H' p sg lim lr ls ts' rs' zs'->EW lr ls H H'->rs'.length<=rs.length+1->zs'.length<=zs.length+1->(zs≠[]\/(b<=0/\r.1=0/\r.2.c<=lim)->zs'≠[])->Q .non H')
theorem E2:ay ["_law_rules","_law_stock","_law_wanted","_law_again","_law_parts","_law_made","_law_k","_law_cost_here"] ["_law_rules","_law_stock","_law_wanted","_law_again","_law_parts","_law_made"] (ak uI):=by walk_at "c"
theorem v6(r:Nat×RV):gj (fX r) 0=some (.str (tx r.2.n))/\gj (fX r) 1=some (.int r.2.c):=by
 obtain⟨k,v⟩:=r
 match k with
 |0=>exact⟨rfl,rfl⟩
 |1=>exact⟨rfl,rfl⟩
 |2=>exact⟨rfl,rfl⟩
 |k+3=>exact⟨rfl,rfl⟩
theorem Nx.cell0{pc:bJ}(h:Nx r ys pc)(h1:r.1=0):ys=[]:=by
 cases h with
 |cell _=>rfl
 |turn e=>rw[h1]at e;cases e
 |pair e=>rw[h1]at e;rcases e with e | e<;>cases e
theorem wV:∀{ys:List FI},(∀z∈ys,z.at H)->aL H (((ys.map FI.x).map SI.t).map bB.d) (ys.map λz=>z.v)
 | [],_=>by unfold aL;rfl
 |z::ys,h=>by
  show aL H (z.x.t.d::_) (z.v::_);exact aL.cons (h z q0B).2.1 (wV λy hy=>h y (Mr _ hy))
theorem Ez{f:Addr}(F:cu K "_law_put" "_law_put" uI f fd)(nb:NB mg)(yak:mg "sum"=none)(zUd:↑dO 1 "_law_noted" ["_law_rules","_law_wanted","_law_again"] rg):↑aT 2 f fd ["_law_rules","_law_stock","_law_wanted","_law_again","_law_parts","_law_made"] mP:=by
 have sc:=E2;walk_at "f"
 ·obtain⟨lr,ls,tw,la,tm,lq,b,ts,rs,zs,j,r,pc,p,sg,a0,rfl,g,a2,a6,d1,hz100,c6,b3,nls,a1,c2,b1,a7,nx,q⟩:=h
  have hu:=hr.units;refine⟨_,(af (q01 6 sc.nd (aJ zUd b⁻¹ rfl aW (aa (al 0) (aa (al 2) (aa (al 3) ac)))))
   (af (q01 7 sc.nd (au (bg.m0 bO) (az aw (az aQ (al 0) (al 6) (λ_ _=>rfl)) ah (λ_ _=>rfl)) (aC (kP rfl) rfl yak uG (aa (cH ["_law_part"] [] rfl (bI.of i⁻¹) i⁻¹ (cv (al 4))
    (λ_ _ _ _=>(ax (i:=0) (by show(["_law_part"]:List Str).Nodup;decide +kernel) rfl (Or.inl rfl))) (λ_ _ _ _=>bW) (λ_ _ _ _=>(az (Aj (K:=K) rfl) (al 0) ah (λ_ _=>rfl)))) ac))))
   (ai (bp (aE (bg.m0 lQ) (al 7) (az aw (al 5) ah (λ_ _=>rfl)) (aI _))
   (ai (br (q03 (al 1) (aa (aN (aa (au dZ (aN (aa (al 6) ac)) (c_ sN rfl nb.tuple Ee (aa (cH ["_law_part"] [] rfl (bI.of i⁻¹) i⁻¹ (cv (al 4))
    (λ_ _ _ _=>(ax (i:=0) (by show(["_law_part"]:List Str).Nodup;decide +kernel) rfl (Or.inl rfl))) (λ_ _ _ _=>bW) (λ_ _ _ _=>(az (Aj (K:=K) rfl) (al 0) ah (λ_ _=>rfl)))) ac))) (aa (az aw (az aQ (al 0) (al 6) (λ_ _=>rfl)) ah (λ_ _=>rfl)) (aa (az aw (al 5) ah (λ_ _=>rfl)) (aa (al 7) ac))))) ac))))
   aK)))),?_⟩
  refine aj λN1 h1=>?_;have go:∀(k:Nat) (m:Nat×RV) (D:Nb) (B:Yaa) (Z:Hp),GS Z p sg a0 lr ls D B zs->B[k]?=some m->oY m r->B.length<=rs.length+1->du lr H Z->(b<=0->m=r)->N1 [some (V.ref lr),some (V.ref ls),some (V.ref tw),some (V.int b),some (V.ref la),some (V.ref tm),some (V.int (k:Int)),none] Z:=by
   intro k m D B Z G hk Y R hE a8;refine h1 _ _ ?_;clear h1;have C:=hE _ _ b3 c6;have M:=hE.tups g.rows.1 _ _ c2;have a9:=hE _ _ (yl g.rows.1 b1 a7) b1;have c0:=nx.ne;rw[Mb]at c0;obtain⟨tk,a3⟩:∃tk,D[k]?=some tk:=⟨_,L_ (by have:=(L'.mp hk).1;have:=G.rows.2.1;omega)⟩;have b2:gj (D.map V.ref) (k:Int)=some (V.ref tk):=a_ (by rw[Md,a3];rfl);have O:=G.rows.2.2 k tk m a3 hk;symm;have T:∀y∈j,y.at Z:=λy hy=>G.at_ y (a1 y hy);refine⟨_,aO.of G.rows.1,_,b2,_,rfl,_,aS.of O,_,(v6 m).2,⟨_,aO.of C⟩,?_⟩;refine gR (as:=j) (emb:=λz=>V.ref z.a) (f:=λz=>some (V.int z.x.c)) (λσ=>∃x,σ=[x]) ⟨_,rfl⟩ (λH' s=>aO.of (s _ _ C)) ⋯ ?_ ?_
   ·rintro i z S σ H' M1 M0 ⟨y,rfl⟩ sm k1 k0
    ext;exact⟨_,aS.of (sm _ _ (T z (Me S)).1),_,rfl,k1 _ _ _ rfl sm ⟨_,rfl⟩⟩
   intro H2 s2 l hl;rw[mH];refine⟨j.map λz=>z.x.c,by rw[Mp];exact aO.of ad,_,rfl,h1 _ _ ?_⟩;clear h1;have s3:=s2.trans (ae (o:=.lst (j.map λz=>V.int z.x.c)) hl);generalize aA H2 l (.lst (j.map λz=>V.int z.x.c))=H3 at s3 ⊢;clear s2 hl H2;have g3:=G.up s3;have a4:(j.map λz=>z.x.c).sum=((j.map FI.x).map SI.c).sum:=by rw[Mp];rfl
   have a5:=nx.sd (λr hr=>(G.ro r hr).good) hk Y λy hy=>by
    obtain⟨z,S,rfl⟩:=MR.mp hy;exact(G.good z (a1 z S)).sd
   rw[a4];generalize U:m.2.c+((j.map FI.x).map SI.c).sum=cost at a5 ⊢;have hB:∀{H4},aD H3 H4->EW lr ls H H4:=λs4 y u n1 _ e=>s4 _ _ (s3 _ _ (hE y u n1 e));ext;refine⟨_,aS.of (s3 _ _ M),_,rfl,_,rfl,?_⟩;refine dG (λt1=>?_) (λt1=>?_)
   ·refine⟨.inl ⟨rfl,_,aO.of g3.st⟩,am nofun,λp1 c3=>?_⟩
    have s4:=ae (o:=.tup [V.int (k:Int)]) c3;have e4:aA H3 p1 (.tup [V.int (k:Int)]) p1=some (.tup [V.int (k:Int)]):=ad;generalize aA H3 p1 (.tup [V.int (k:Int)])=H4 at s4 e4 ⊢;have I:=s3.trans s4;refine⟨⟨_,aO.of (I _ _ C)⟩,?_⟩;refine gR (as:=j) (emb:=λz=>V.ref z.a) (f:=λz=>some z.v) (λσ=>∃x,σ=[x]) ⟨_,rfl⟩ (λH' s=>aO.of (s _ _ (I _ _ C))) ⋯ ?_ ?_
    ·rintro i z S σ H' M1 M0 ⟨y,rfl⟩ sm k1 k0
     ext;exact⟨_,aS.of (sm _ _ (I _ _ (T z (Me S)).1)),_,rfl,k1 _ _ _ rfl sm ⟨_,rfl⟩⟩
    intro H5 s5 l hl;rw[mH];refine⟨_,.inl ⟨aO.of ad,λl4 c9=>?_⟩⟩;have sB:=(ae (o:=.lst (j.map λz=>z.v)) hl).trans (ae (o:=.tup (j.map λz=>z.v)) c9);refine iL (sB _ _ (s5 _ _ e4)) ad (by simp) (by simp;omega) λtr H6 c1 s6=>?_;have L:=I.trans ((s5.trans sB).trans s6);have g6:=G.up L;refine⟨_,aO.of g6.rows.1,_,b2,_,rfl,_,aS.of (L _ _ O),_,(v6 m).1,_,aS.of (L _ _ M),_,rfl,am nofun,λnp c4=>?_⟩;have s7:=ae (o:=.tup [V.ref tr,V.str (tx m.2.n),V.ref lq,V.int cost]) c4;have e7:aA H6 np (.tup [V.ref tr,V.str (tx m.2.n),V.ref lq,V.int cost]) np=some (.tup [V.ref tr,V.str (tx m.2.n),V.ref lq,V.int cost]):=ad;generalize aA H6 np (.tup [V.ref tr,V.str (tx m.2.n),V.ref lq,V.int cost])=H7 at s7 e7 ⊢;have J:=L.trans s7;have g7:=G.up J;have b4:FI.at ⟨np,V.ref tr,lq,⟨xP (k:Int) ((j.map FI.x).map SI.t),m.2.n,pc,cost⟩⟩ H7:=by
     refine⟨e7,?_,J _ _ a9,a7⟩;refine bB.of (vs:=j.map λz=>z.v) ?_ ?_
     ·show H7 tr=some (.tup (.int (xP (k:Int) ((j.map FI.x).map SI.t)).i::_))
      rw[Au];exact s7 _ _ c1
     ·show aL H7 ((xP (k:Int) ((j.map FI.x).map SI.t)).ps.map bB.d) _
      rw[CO _ (by simp;omega)];exact wV λz S=>((T z S).up J)
    have gd:EB B p a0 ⟨xP (k:Int) ((j.map FI.x).map SI.t),m.2.n,pc,cost⟩:=⟨a5,(G.ro _ (Me hk)).n,t1⟩;refine⟨_,g7.st,by rw[Mb];exact bf ⋯,?_⟩;exact q _ D B _ (g7.item b4 gd) (λy u n1 n2 e=>by rw[ao n2];exact J _ _ (hE y u n1 e)) R (by simp) (λ_=>by simp)
   ·refine q H3 D B zs g3 (hB (aD.refl _)) R ⋯ λh=>?_
    rcases h with h | ⟨h0,h1,h2⟩
    ·exact h
    ·refine q0O ?_ t1
     have er:=a8 h0;subst er;rw[<- U];rw[nx.cell0 h1]
     simpa using h2
  clear h1;ext;refine⟨lr,tw,b,ts,rs,r,rfl,g.rows,λx hx=>(g.ro x hx).good.k4,a2,a6.good.k4,d1,λk m Z d0 hk Y s1=>?_,λH0 s0=>?_⟩
  ·exact go k m ts rs Z (g.up s1) hk Y ⋯ (.of s1) (λe=>q0O d0 ⋯)
  ·exact go rs.length r _ _ _ ((g.up s0).row (s0 _ _ a2) a6) (by simp) (oY.rfl' r) (by simp) ((du.of s0).trans du.put) (λ_=>rfl)
abbrev jl:Stmt:=gZ 70
inductive lM(vs:List V)(H:Hp)(Q:VK)(_E:XK):Prop
 |mk (re co dear side lim:Int) (nm:M8) (td lb:Addr) (p:bJ) (sg:M8) (_:vs=[.int re,.str (tx nm),.int co,.ref td]) (_:H td=some (.tup [.str (tx sg),.ref lb,.int dear,.int side,.int lim])) (_:H lb=some (.lst (aH p))) (_:p.length=4) (_:(∀r∈p,cW r=true)) (_:dQ sg=true) (_:nm∈p) (_:1<=co) (_:co<=9) (_:∀t r H',H' t=some (.tup (fX r))->jw p sg r->aD H H'->Q (.ref t) H')
theorem sO:ay ["_law_rest","_law_name","_law_cost_here","_law_drawn","_law_signs_here","_law_names_here","_law_one"] ["_law_rest","_law_name","_law_cost_here","_law_drawn"] (ak jl):=by walk_at "c"
theorem sj{f:Addr}(F:cu K "_law_any_rule" "_law_any_rule" jl f fd)(nb:NB mg):↑aT 1 f fd ["_law_rest","_law_name","_law_cost_here","_law_drawn"] lM:=by
 have sc:=sO;walk_at "f"
 ·obtain⟨y,R,dear,side,lim,m,td,lb,p,v,rfl,a0,M,hp4,r,J,b,c1,c9,q⟩:=h
  have hu:=hr.units;refine⟨_,(af (qV (cX Ay (al 3) fq (dN ah)) (fg (n:=2) rfl (aM (q02 4 sc.nd) (aM (q02 5 sc.nd) cz))))
   (af (q01 6 sc.nd (az aQ (al 5) (au (bg.m1 bj) (au (bg.m1 bu) (al 0) ah) ah) (λ_ _=>rfl)))
   (af (bp (aE dn (au (bg.m1 bj) (al 0) ah) ah (aI _))
   (ai (aF (aN (aa (al 1) (aa (al 2) (bx (aa (az i_ (al 4) (au (bg.m1 bj) (au (bg.m1 bu) (al 0) ah) (aC aP rfl nb.len aR (aa (al 4) ac))) (λ_ _=>rfl)) (bH ac))))))))
   aK)
   (af (bp (aE dn (au (bg.m1 bj) (al 0) ah) ah (aI _))
   (ai (aF (aN (aa (al 1) (aa (al 2) (bx (aa (al 6) (aa (au (bg.m1 bj) (au (bg.m1 bu) (al 0) ah) ah) ac))))))))
   aK)
   (ai (aF (aN (aa (al 1) (aa (al 2) (aa (au (bg.m1 bj) (al 0) ah) (aa (al 6) (aa (az aQ (al 5) (au (bg.m1 bj) (au (bg.m1 bu) (al 0) ah) ah) (λ_ _=>rfl)) ac)))))))))))),?_⟩
  have hsl:=jo J;have l:∀x:Int,∃z∈p,gj (aH p) (x%4)=some (V.str (tx z)):=λx=>by
   obtain⟨j,hj⟩:∃j:Nat,x%4=(j:Int):=⟨_,(MY (MW _ ⋯)).symm⟩;have:x%4<4:=MX _ ⋯;exact⟨p[j]'⋯,Mi _,by rw[hj];exact a_ (bc ⋯)⟩
  have B:∀x:Int,∃c∈v,gj (tx v).cps.toList (x%(v.length:Int))=some c:=λx=>by
   rw[dY];exact uO (MW _ ⋯) (MX _ ⋯)
  have gd:∀(k:Nat) (o u:M8) (e:Nat) (C:Int),k<4->o∈p->u∈p->e∈v->0<=C->C<=7->jw p v (k,⟨m,R,o,u,[e],C⟩):=λk o u e C hk h1 h2 h3 t0 t7=>by
   have g:RV.good ⟨m,R,o,u,[e],C⟩:=⟨r _ b,c1,c9,r _ h1,r _ h2,wc J h3,t0,t7⟩;exact⟨⟨hk,g,g.small⟩,b,h1,h2,e,h3,rfl⟩
  symm;refine⟨_,aS.of a0,λp2 H1 e1 G=>⟨_,e1,rfl,_,_,rfl,_,_,rfl,rfl,h1 _ _ ?_⟩⟩;grind;obtain⟨o,I,U⟩:=l (y/4);refine⟨_,aO.of (G _ _ M),_,U,h1 _ _ ?_⟩;clear h1;obtain⟨S,O,_⟩:=B 0;symm;refine iN (λk0=>?_) (λk0=>h1 _ _ ?_)
  ·clear h1
   obtain⟨e,a2,Y⟩:=B (y/16);rw[av];have L:v.length<=sizeLine:=am ⋯;refine⟨L,⋯,L,e,Y,am nofun,λD a=>q D (0,⟨m,R,m,m,[e],0⟩) _ ad (gd 0 _ _ e _ nofun b b a2 nofun nofun) (G.trans (ae a))⟩
  grind;refine iN (λk3=>?_) (λk3=>h1 _ _ ?_)
  ·clear h1
   refine⟨am nofun,λD a=>q D (3,⟨m,R,o,m,[S],y/16%8⟩) _ ad (gd 3 _ _ S _ nofun I b O ⋯ ⋯) (G.trans (ae a))⟩
  clear h1;ext;obtain⟨u,Z,T⟩:=l (y/16);obtain⟨k,hk,a1⟩:∃k:Nat,y%4=(k:Int)/\(k=1\/k=2):=⟨(y%4).toNat,⋯,⋯⟩;rw[hk];refine⟨_,aO.of (G _ _ M),_,T,am nofun,λD a=>q D (k,⟨m,R,o,u,[S],0⟩) _ (by rw[ad];rcases a1 with rfl | rfl<;>rfl) (gd k _ _ S _ ⋯ I Z O nofun nofun) (G.trans (ae a))⟩
abbrev qG:Stmt:=gZ 71
inductive ud(vs:List V)(H:Hp)(Q:VK)(_E:XK):Prop
 |mk (lr ls td lb:Addr) (ts:Nb) (rs:Yaa) (zs:List FI) (p:bJ) (sg:M8) (c dear side lim:Int) (_:vs=[.ref lr,.ref ls,.int c,.ref td]) (_:GS H p sg lim lr ls ts rs zs) (_:H td=some (.tup [.str (tx sg),.ref lb,.int dear,.int side,.int lim])) (_:H lb=some (.lst (aH p))) (_:p.length=4) (_:(∀r∈p,cW r=true)) (_:dQ sg=true) (_:1<=dear) (_:dear<=9) (_:side<=6) (_:rs.length<24) (_:zs.length<=100) (_:∀H' ts' rs' zs',GS H' p sg lim lr ls ts' rs' zs'->EW lr ls H H'->rs'.length<=rs.length+1->zs'.length<=zs.length+1->(zs≠[]->zs'≠[])->Q .non H')
theorem AU:ay ["_law_rules","_law_stock","_law_cell_here","_law_drawn","_law_signs_here","_law_names_here","_law_dear","_law_side","_law_limit","_law_kind","_law_again","_law_name","_law_cost_here","_law_rest","_law_sign","_law_one","_law_made","_law_other","_law_way","_law_picture"] ["_law_rules","_law_stock","_law_cell_here","_law_drawn"] (ak qG):=by walk_at "c"
theorem Cz{f:Addr}(F:cu K "_law_step" "_law_step" qG f fd)(nb:NB mg)(zEb:↑dO 1 "_law_any_rule" ["_law_rest","_law_name","_law_cost_here","_law_drawn"] lM)(zVa:↑dO 2 "_law_put" ["_law_rules","_law_stock","_law_wanted","_law_again","_law_parts","_law_made"] mP)(zHa:↑dO 1 "_law_turned" ["_law_picture","_law_t"] (jM K))(zIa:↑dO 1 "_law_joined" ["_law_one","_law_other","_law_side","_law_most"] j9):↑aT 3 f fd ["_law_rules","_law_stock","_law_cell_here","_law_drawn"] ud:=by
 have sc:=AU;walk_at "f"
 ·obtain⟨lr,ls,td,lb,ts,rs,zs,p,sg,c,C,Z,m,rfl,g,f1,f3,g5,a9,d0,hd1,hd9,g3,f4,a4,q⟩:=h
  have hu:=hr.units;refine⟨_,(af (qV (al 3) (fg (n:=5) rfl (aM (q02 4 sc.nd) (aM (q02 5 sc.nd) (aM (q02 6 sc.nd) (aM (q02 7 sc.nd) (aM (q02 8 sc.nd) cz)))))))
   (af (q01 9 sc.nd (au (bg.m1 bj) (al 2) ah))
   (af (q01 10 sc.nd (au (bg.m1 bj) (au (bg.m1 bu) (al 2) ah) ah))
   (af (q01 11 sc.nd (az aQ (al 5) (au (bg.m1 bj) (au (bg.m1 bu) (al 2) ah) ah) (λ_ _=>rfl)))
   (af (q01 12 sc.nd (au (bg.m0 bO) ah (au (bg.m1 bj) (au (bg.m1 bu) (al 2) ah) (al 6))))
   (af (q01 13 sc.nd (au (bg.m1 bu) (au (bg.m1 bu) (al 2) ah) (al 6)))
   (af (bp (aE dn (al 9) ah (aI _))
   (af (br (q03 (al 0) (aa (aJ zEb b⁻¹ rfl aW (aa (al 13) (aa (al 11) (aa (al 12) (aa (al 3) ac))))) ac)))
   (ai pN))
   aK)
   (af (bp (PW.pt (lK (aE dn (al 9) ah (aI _)) (iq (aE dn (aC aV rfl nb.len aR (aa (al 1) ac)) ah (aI _)))))
   (af (q01 14 sc.nd (az i_ (al 4) (au (bg.m1 bj) (al 13) (aC aP rfl nb.len aR (aa (al 4) ac))) (λ_ _=>rfl)))
   (af (br (aJ zVa b⁻¹ rfl aW (aa (al 0) (aa (al 1) (aa (aN (aa (al 11) (aa (al 12) (bx (aa (al 14) (bH ac)))))) (aa (al 10) (aa (bA ac) (aa (aN (aa (bA (aa (al 14) ac)) (aa (al 8) ac))) ac))))))))
   (ai pN)))
   aK)
   (af (q01 15 sc.nd (az aQ (al 1) (au (bg.m1 bj) (al 13) (aC aV rfl nb.len aR (aa (al 1) ac))) (λ_ _=>rfl)))
   (af (q01 13 sc.nd (au (bg.m1 bu) (al 13) (aC aV rfl nb.len aR (aa (al 1) ac))))
   (af (bp (aE dn (al 9) ah (aI _))
   (af (q01 16 sc.nd (aN (aa (aJ zHa b⁻¹ rfl aW (aa (az aw (al 15) ah (λ_ _=>rfl)) (aa (au (bg.m1 bj) (al 13) ah) ac))) (aa (al 8) ac))))
   (af (br (aJ zVa b⁻¹ rfl aW (aa (al 0) (aa (al 1) (aa (aN (aa (al 11) (aa (al 12) (bx (aa (az aw (al 15) ah (λ_ _=>rfl)) (aa (au (bg.m1 bj) (al 13) ah) ac)))))) (aa (al 10) (aa (bA (aa (al 15) ac)) (aa (al 16) ac))))))))
   (ai pN)))
   aK)
   (af (q01 17 sc.nd (az aQ (al 1) (au (bg.m1 bj) (al 13) (aC aV rfl nb.len aR (aa (al 1) ac))) (λ_ _=>rfl)))
   (ai (bD PassesOwn.never rfl (u7 (aN (aa (al 9) (aa (au (bg.m0 fu) ah (al 9)) ac)))) (q02 18 sc.nd)
   (af (q01 19 sc.nd (aJ zIa b⁻¹ rfl aW (aa (az aw (al 15) ah (λ_ _=>rfl)) (aa (az aw (al 17) ah (λ_ _=>rfl)) (aa (gn dn (al 18) ah (aI _)) (aa (al 7) ac))))))
   (ai (bp (aE Az (al 19) fY (aI _))
   (af (br (aJ zVa b⁻¹ rfl aW (aa (al 0) (aa (al 1) (aa (aN (aa (al 11) (aa (al 12) (aa (al 18) (aa (az aw (al 15) ah (λ_ _=>rfl)) (aa (az aw (al 17) ah (λ_ _=>rfl)) ac)))))) (aa (al 10) (aa (bA (aa (al 15) (aa (al 17) ac))) (aa (aN (aa (al 19) (aa (al 8) ac))) ac))))))))
   (ai pN))
   aK))))))))))))))))),?_⟩
  symm;refine⟨_,aS.of f1,rfl,_,_,rfl,_,_,rfl,_,_,rfl,_,_,rfl,_,_,rfl,rfl,h1 _ _ ?_⟩;grind;refine h1 _ _ ?_;grind;refine h1 _ _ ?_;grind;have hsl:=jo d0;have e8:∀x:Int,∃z∈p,gj (aH p) (x%4)=some (V.str (tx z)):=λx=>by
   obtain⟨j,hj⟩:∃j:Nat,x%4=(j:Int):=⟨_,(MY (MW _ ⋯)).symm⟩;have:x%4<4:=MX _ ⋯;exact⟨p[j]'⋯,Mi _,by rw[hj];exact a_ (bc ⋯)⟩
  have d9:∀x:Int,∃c∈sg,gj (tx sg).cps.toList (x%(sg.length:Int))=some c:=λx=>by
   rw[dY];exact uO (MW _ ⋯) (MX _ ⋯)
  have hsz:(tx sg).length<=sizeLine:=by rw[av];exact am ⋯
  obtain⟨nm,a2,p1⟩:=e8 (c/20);refine⟨_,aO.of f3,_,p1,h1 _ _ ?_⟩;grind;have c0:0<=c/80%C:=MW _ ⋯;have c9:c/80%C<C:=MX _ ⋯;refine⟨⋯,h1 _ _ ?_⟩;clear h1;obtain⟨G,g7⟩:∃G,1+c/80%C=G:=⟨_,rfl⟩;rw[g7];symm;refine⟨⋯,⋯,h1 _ _ ?_⟩;clear h1;generalize c/80/C=re;have gd:∀(k:Nat) (l I:M8) (J:Nat) (T:Int),k<4->l∈p->I∈p->J∈sg->0<=T->T<=7->jw p sg (k,⟨nm,G,l,I,[J],T⟩):=λk l I J T hk h1 h2 h3 t0 t7=>by
   have g:RV.good ⟨nm,G,l,I,[J],T⟩:=⟨a9 _ a2,by show 1<=G;omega,by show G<=9;omega,a9 _ h1,a9 _ h2,wc d0 h3,t0,t7⟩;exact⟨⟨hk,g,g.small⟩,a2,h1,h2,J,h3,rfl⟩
  generalize c/5%4=ag;refine aj λN1 h1=>?_;refine vm λtb ub et eu=>?_;ext;refine dG (λk4=>?_) (λk4=>?_)
  ·rw[et]
   clear et eu tb ub h1;ext;refine⟨.inl ⟨rfl,_,aO.of g.rows.1⟩,re,G,C,Z,m,nm,td,lb,p,sg,rfl,f1,f3,g5,a9,d0,a2,⋯,⋯,λt r H1 ht d1 s1=>⟨_,s1 _ _ g.rows.1,?_,?_⟩⟩
   ·rw[Mb,g.rows.2.1];exact bf ⋯
   ·exact q _ _ _ zs ((g.up s1).row ht d1) (λy u n1 n2 e=>by rw[ao n1];exact s1 _ _ e) (by simp) ⋯ (λh=>h)
  rw[eu];clear et eu tb ub;ext;refine h1 _ _ ?_;clear h1;refine aj λN1 h1=>?_;refine vm λtb ub et eu=>?_;ext;have c1:∀{D:iO},D.rt=Q->tb D [some (V.ref lr),some (V.ref ls),some (V.int c),some (V.ref td),some (V.str (tx sg)),some (V.ref lb),some (V.int C),some (V.int Z),some (V.int m),some (V.int (c%5)),some (V.int ag),some (V.str (tx nm)),some (V.int G),some (V.int re),none,none,none,none,none,none] H:=fun{D} hD=>by
   rw[et];ext;rw[av];obtain⟨J,b1,pc⟩:=d9 re;have f2:sg.length<=sizeLine:=am ⋯;refine⟨f2,⋯,f2,J,pc,am nofun,λS U=>⟨Mz _,λR B=>⟨am nofun,λM a6=>⟨am nofun,λY L=>?_⟩⟩⟩⟩;have r0:=gd 0 nm nm J 0 nofun a2 a2 b1 nofun nofun;generalize hr:(⟨nm,G,nm,nm,[J],0⟩:RV)=rv at r0;have e1:aA H S (.tup [V.str (tx nm),V.int G,V.int 0,V.str ⟨#[J]⟩,V.str (Str.ofString "")]) S=some (.tup (fX (0,rv))):=by rw[ad,<- hr];rfl
   have s1:=ae (o:=.tup [V.str (tx nm),V.int G,V.int 0,V.str ⟨#[J]⟩,V.str (Str.ofString "")]) U;generalize aA H S (.tup [V.str (tx nm),V.int G,V.int 0,V.str ⟨#[J]⟩,V.str (Str.ofString "")])=H1 at s1 e1 B a6 L ⊢;have s2:=ae (o:=.lst []) B;have e2:aA H1 R (.lst []) R=some (.lst []):=ad;generalize aA H1 R (.lst [])=H2 at s2 e2 a6 L ⊢;have s3:=ae (o:=.lst [V.str ⟨#[J]⟩]) a6;have e3:aA H2 M (.lst [V.str ⟨#[J]⟩]) M=some (.lst (aH [rv.sg])):=by rw[ad,<- hr];rfl
   generalize aA H2 M (.lst [V.str ⟨#[J]⟩])=H3 at s3 e3 L ⊢;have s4:=ae (o:=.tup [V.ref M,V.int m]) L;have e4:aA H3 Y (.tup [V.ref M,V.int m]) Y=some (.tup [V.ref M,V.int m]):=ad;generalize aA H3 Y (.tup [V.ref M,V.int m])=H4 at s4 e4 ⊢;have e0:=s3.trans s4;have e6:=s2.trans e0;have e7:=s1.trans e6;have nl:∀{x u},H x=some u->R≠x:=λe z=>by rw[<- z,gu s1 B]at e;cases e
   refine⟨lr,ls,S,R,Y,M,ag,ts,rs,zs,[],(0,rv),[rv.sg],p,sg,m,rfl,g.up e7,e6 _ _ e1,r0,f4,a4,e0 _ _ e2,nl g.rows.1,nl g.st,λy hy=>(nomatch hy),e4,s4 _ _ e3,by simp,Nx.cell rfl,λH' c2 c4 b2 g' sB l1 l2 d2=>?_⟩;rw[hD];exact q H' c2 c4 b2 g' (λy u n1 n2 e=>sB y u n1 n2 (e7 _ _ e)) l1 l2 (λh=>d2 (.inl h))
  refine dG (λ_=>c1 rfl) (λk0=>⟨_,aO.of g.st,?_⟩);rw[Mb];refine dG (λ_=>c1 rfl) (λz0=>?_);clear c1;rw[eu];clear et eu tb ub;have e9:1<=zs.length:=by omega
  have g1:zs≠[]:=λe=>by rw[e]at e9;simp at e9
  have d7:∀x:Int,∃z∈zs,gj (zs.map λz=>V.ref z.a) (x%(zs.length:Int))=some (V.ref z.a):=λx=>by
   obtain⟨v,hv,e⟩:=uO (xs:=zs.map λz=>V.ref z.a) (MW x (show(zs.length:Int)≠0 by omega)) (by rw[Mb];exact MX _ ⋯);obtain⟨z,hz,rfl⟩:=MR.mp hv;exact⟨z,hz,e⟩
  ext;refine h1 _ _ ?_;grind;obtain⟨l,a0,g0⟩:=d7 re;refine⟨_,aO.of g.st,by rw[Mb];omega,_,aO.of g.st,_,by rw[Mb];exact g0,h1 _ _ ?_⟩;grind;refine⟨_,aO.of g.st,by rw[Mb];omega,by rw[Mb];omega,h1 _ _ ?_⟩;clear h1;rw[Mb];generalize re/(zs.length:Int)=re2;have a1:=g.at_ l a0;have b3:=g.good l a0;obtain⟨zr,zc,f6⟩:=b3.sd;have zp:=f6.pic λr hr=>(g.ro r hr).good;have zr6:zr<=6:=zp.r6;have zc6:zc<=6:=zp.c6;obtain⟨J,b1,_⟩:=d9 0;have f5:∀{H5:Hp} {S R Y M:Addr} {ys:List FI} {r:Nat×RV} {pc:bJ},aD H H5->H5 S=some (.tup (fX r))->jw p sg r->r.2.c=G->H5 R=some (.lst (ys.map λz=>V.ref z.a))->H R=none->(∀y∈ys,y∈zs)->H5 Y=some (.tup [.ref M,.int m])->H5 M=some (.lst (aH pc))->(∃a b,fb pc a b)->Nx r (ys.map FI.x) pc->mP [.ref lr,.ref ls,.ref S,.int ag,.ref R,.ref Y] H5 (λ_ H1=>Q .non H1) E0:=fun{H5 S R Y M ys r pc} s5 e1 d1 hc0 e2 B hys e3 e4 a5 nx=>by
   have nl:∀{x u},H x=some u->R≠x:=λe z=>by rw[<- z,B]at e;cases e
   obtain⟨a,b,p6⟩:=a5;refine⟨lr,ls,S,R,Y,M,ag,ts,rs,zs,ys,r,pc,p,sg,m,rfl,g.up s5,e1,d1,f4,a4,e2,nl g.rows.1,nl g.st,hys,e3,e4,λe=>?_,nx,λH' c2 c4 b2 g' sB l1 l2 d2=>?_⟩
   ·have h1:=p6.rc.1
    have h2:=p6.r0;rw[e]at h1;rw[<- h1]at h2;cases h2
   ·exact q H' c2 c4 b2 g' (λy u n1 n2 e=>sB y u n1 n2 (s5 _ _ e)) l1 l2 (λh=>d2 (.inl h))
  refine aj λN1 h1=>?_;refine vm λtb ub et eu=>?_;ext;refine dG (λk3=>?_) (λk3=>?_)
  ·rw[et]
   clear et eu tb ub h1;symm;obtain⟨T,f0,g2⟩:∃T:Nat,re2%8=(T:Int)/\T<8:=⟨(re2%8).toNat,⋯,⋯⟩;rw[f0];refine⟨_,aS.of a1.1,_,rfl,l.lp,l.x.p,zr,zc,T,rfl,a1.2.2.1,zp.rc,zp.r0,zp.c0,⋯,⋯,g2,λM H1 a6 d3 s1=>⟨am nofun,λY L=>h1 _ _ ?_⟩⟩;clear h1;have s2:=ae (o:=.tup [V.ref M,V.int m]) L;have e2:aA H1 Y (.tup [V.ref M,V.int m]) Y=some (.tup [V.ref M,V.int m]):=ad;generalize aA H1 Y (.tup [V.ref M,V.int m])=H2 at s2 e2 ⊢;have O:=s1.trans s2;ext;rw[f0];refine⟨_,aS.of (O _ _ a1.1),_,rfl,am nofun,λS U=>⟨am nofun,λR B=>?_⟩⟩;have a7:H R=none:=gu (O.trans (ae U)) B;have e3:aA H2 S (.tup [V.str (tx nm),V.int G,V.int 3,V.str (tx l.x.nm),V.int (T:Int)]) S=some (.tup (fX (3,⟨nm,G,l.x.nm,nm,[J],(T:Int)⟩))):=ad;have s3:=ae (o:=.tup [V.str (tx nm),V.int G,V.int 3,V.str (tx l.x.nm),V.int (T:Int)]) U;generalize aA H2 S (.tup [V.str (tx nm),V.int G,V.int 3,V.str (tx l.x.nm),V.int (T:Int)])=H3 at s3 e3 B ⊢;have s4:=ae (o:=.lst [V.ref l.a]) B;exact f5 ((O.trans s3).trans s4) (s4 _ _ e3) (gd 3 _ _ J _ nofun b3.nm a2 b1 ⋯ ⋯) rfl (ys:=[l]) ad a7 (λy hy=>by rw[Mc.mp hy];exact a0) (s4 _ _ (s3 _ _ e2)) (s4 _ _ (s3 _ _ (s2 _ _ d3))) (sY zp T) (Nx.turn (x:=l.x) rfl rfl)
  ·rw[eu]
   clear et eu tb ub;ext;refine h1 _ _ ?_;grind;obtain⟨I,a3,f9⟩:=d7 re2;refine⟨_,aO.of g.st,by rw[Mb];omega,_,aO.of g.st,_,by rw[Mb];exact f9,h1 _ _ ?_⟩;clear h1;have b4:=g.at_ I a3;have d6:=g.good I a3;obtain⟨f7,f8,d4⟩:=d6.sd;have d5:=d4.pic λr hr=>(g.ro r hr).good;ext;refine⟨am nofun,λpt g4=>?_⟩;have s1:=ae (o:=.tup [V.int (c%5),V.int (3-c%5)]) g4;have e1:aA H pt (.tup [V.int (c%5),V.int (3-c%5)]) pt=some (.tup [V.int (c%5),V.int (3-c%5)]):=ad;generalize aA H pt (.tup [V.int (c%5),V.int (3-c%5)])=H1 at s1 e1 ⊢;refine⟨⟨_,aS.of e1⟩,?_⟩;refine wO (xs:=[V.int (c%5),V.int (3-c%5)]) (λi σ H'=>aD H1 H'/\∃y2 y3,σ=[some (V.ref lr),some (V.ref ls),some (V.int c),some (V.ref td),some (V.str (tx sg)),some (V.ref lb),some (V.int C),some (V.int Z),some (V.int m),some (V.int (c%5)),some (V.int ag),some (V.str (tx nm)),some (V.int G),some (V.int re2),none,some (V.ref l.a),none,some (V.ref I.a),y2,y3]) ⟨aD.refl _,_,_,rfl⟩ (λi σ H' _ h=>aS.of (h.1 _ _ e1)) ?_ ?_
   ·rintro i x σ H2 hx ⟨s2,y2,y3,rfl⟩
    obtain⟨k,hk,rfl⟩:∃k:Nat,(k=1\/k=2)/\x=V.int (k:Int):=by
     have g8:c%5=1\/c%5=2:=by omega
     have hm:=Me hx;rcases g8 with e | e<;>rw[e]at hm<;>(rcases Mq.mp hm with rfl | hm)
     ·exact⟨1,.inl rfl,rfl⟩
     ·rw[Mc.mp hm];exact⟨2,.inr rfl,rfl⟩
     ·exact⟨2,.inr rfl,rfl⟩
     ·rw[Mc.mp hm];exact⟨1,.inl rfl,rfl⟩
    have O:=s1.trans s2;have g6:(if decide ((k:Int)=1)=true then 1 else 2)=k:=by rcases hk with rfl | rfl<;>rfl
    ac_nf;refine⟨_,aS.of (O _ _ a1.1),_,rfl,_,aS.of (O _ _ b4.1),_,rfl,l.lp,I.lp,l.x.p,I.x.p,zr,zc,f7,f8,decide ((k:Int)=1),Z,rfl,O _ _ a1.2.2.1,O _ _ b4.2.2.1,zp,d5,g3,λpc a5 M H3 a6 d3 s3=>h2 _ _ ?_,λH3 _ s3=>h2 _ _ ?_⟩
    ·clear h2
     rw[g6]at a5;ext;rw[q07 (by simp)];have a8:=O.trans s3;refine⟨_,aS.of (a8 _ _ a1.1),_,rfl,_,aS.of (a8 _ _ b4.1),_,rfl,am nofun,λS U=>⟨am nofun,λR B=>⟨am nofun,λY L=>?_⟩⟩⟩;have a7:H R=none:=gu (a8.trans (ae U)) B;have r0:jw p sg (k,⟨nm,G,l.x.nm,I.x.nm,[J],0⟩):=gd k _ _ J _ ⋯ b3.nm d6.nm b1 nofun nofun;have e4:aA H3 S (.tup [V.str (tx nm),V.int G,V.int (k:Int),V.str (tx l.x.nm),V.str (tx I.x.nm)]) S=some (.tup (fX (k,⟨nm,G,l.x.nm,I.x.nm,[J],0⟩))):=by rw[ad];rcases hk with rfl | rfl<;>rfl
     have s4:=ae (o:=.tup [V.str (tx nm),V.int G,V.int (k:Int),V.str (tx l.x.nm),V.str (tx I.x.nm)]) U;generalize aA H3 S (.tup [V.str (tx nm),V.int G,V.int (k:Int),V.str (tx l.x.nm),V.str (tx I.x.nm)])=H4 at s4 e4 B L ⊢;have s5:=ae (o:=.lst [V.ref l.a,V.ref I.a]) B;have e5:aA H4 R (.lst [V.ref l.a,V.ref I.a]) R=some (.lst [V.ref l.a,V.ref I.a]):=ad;generalize aA H4 R (.lst [V.ref l.a,V.ref I.a])=H5 at s5 e5 L ⊢;have s6:=ae (o:=.tup [V.ref M,V.int m]) L;have c3:=s5.trans s6;exact f5 ((a8.trans s4).trans c3) (c3 _ _ e4) r0 rfl (ys:=[l,I]) (s6 _ _ e5) a7 (λy hy=>by rcases Mq.mp hy with rfl | hy;exact a0;rw[Mc.mp hy];exact a3) ad ((s4.trans c3) _ _ d3) (wG hk zp d5 (a5 ⟨nm,G,l.x.nm,I.x.nm,[J],0⟩)) (Nx.pair (x:=l.x) (y:=I.x) hk rfl rfl (a5 _))
    ·clear h2
     ext;rw[q06 (by simp)];exact s2.trans s3
   ·rintro σ H2 ⟨s2,y2,y3,rfl⟩
    exact q H2 ts rs zs (g.up (s1.trans s2)) (λy u _ _ e=>s2 _ _ (s1 _ _ e)) ⋯ ⋯ (λ_=>g1)
abbrev ou:Stmt:=gZ 72
inductive qY(vs:List V)(H:Hp)(Q:VK)(_E:XK):Prop
 |mk (lc td lb:Addr) (cells:List Int) (p:bJ) (sg:M8) (dear side lim:Int) (_:vs=[.ref lc,.ref td]) (_:H lc=some (.lst (cells.map V.int))) (_:cells.length<=14) (_:H td=some (.tup [.str (tx sg),.ref lb,.int dear,.int side,.int lim])) (_:H lb=some (.lst (aH p))) (_:p.length=4) (_:(∀r∈p,cW r=true)) (_:dQ sg=true) (_:1<=dear) (_:dear<=9) (_:side<=6) (_:1<=lim) (_:∀tp lr ls ts rs zs H',H' tp=some (.tup [.ref lr,.ref ls])->GS H' p sg lim lr ls ts rs zs->rs.length<=15->zs≠[]->zs.length<=15->aD H H'->Q (.ref tp) H')
theorem yP:ay ["_law_cells_here","_law_drawn","_law_rules","_law_stock","_law_cell_here"] ["_law_cells_here","_law_drawn"] (ak ou):=by walk_at "c"
theorem yq{f:Addr}(F:cu K "_law_grown" "_law_grown" ou f fd)(nb:NB mg)(zVa:↑dO 2 "_law_put" ["_law_rules","_law_stock","_law_wanted","_law_again","_law_parts","_law_made"] mP)(zIe:↑dO 3 "_law_step" ["_law_rules","_law_stock","_law_cell_here","_law_drawn"] ud):↑aT 4 f fd ["_law_cells_here","_law_drawn"] qY:=by
 have sc:=yP;walk_at "f"
 ·obtain⟨lc,td,lb,k,p,G,c9,a3,b,rfl,c0,hc14,b1,c1,d3,I,Y,e5,e0,d2,d7,q⟩:=h
  have hu:=hr.units;refine⟨_,(af (q01 2 sc.nd (bA ac))
   (af (q01 3 sc.nd (bA ac))
   (af (bD PassesOwn.never rfl (cv (al 0)) (q02 4 sc.nd)
   (ai (br (aJ zIe b⁻¹ rfl aW (aa (al 2) (aa (al 3) (aa (al 4) (aa (al 1) ac))))))))
   (af (bp (aE dn (aC aV rfl nb.len aR (aa (al 3) ac)) ah (aI _))
   (ai (br (aJ zVa b⁻¹ rfl aW (aa (al 2) (aa (al 3) (aa (aN (aa (az aQ e⁻¹ ah (λ_ _=>rfl)) (bx (bx (aa (az i_ e⁻¹ ah (λ_ _=>rfl)) (bH ac)))))) (bx (aa (bA ac) (aa (aN (aa (bA (aa (az i_ e⁻¹ ah (λ_ _=>rfl)) ac)) (aa e⁻¹ ac))) ac)))))))))
   aK)
   (ai (aF (aN (aa (al 2) (aa (al 3) ac))))))))),?_⟩
  symm;refine⟨Mz _,λm J=>h1 _ _ ?_⟩;grind;refine⟨Mz _,λl C=>h1 _ _ ?_⟩;grind;have sA:=(ae (o:=.lst []) J).trans (ae (o:=.lst []) C);refine⟨⟨_,aO.of (sA _ _ c0)⟩,?_⟩;have c4:aA (aA H m (.lst [])) l (.lst []) m=some (.lst []):=ae C _ _ ad;have c3:aA (aA H m (.lst [])) l (.lst []) l=some (.lst []):=ad;have R:H l=none:=by
   by_cases e:l=m
   ·rw[e];exact J
   ·rwa [ao e]at C
  have d5:m≠l:=λe=>by rw[<- e,ad]at C;cases C
  generalize aA (aA H m (.lst [])) l (.lst [])=H1 at sA c4 c3 ⊢;refine cM (xs:=k.map V.int) (λi σ T=>aD H T/\i<=k.length/\(∃D B v,GS T p G b m l D B v/\B.length<=i/\v.length<=i)/\∃z,σ=[some (V.ref lc),some (V.ref td),some (V.ref m),some (V.ref l),z])
   ⟨sA,Mz _,⟨[],[],[],⟨⟨c4,rfl,λi t r e=>by simp at e⟩,λr hr=>(nomatch hr),c3,λz hz=>(nomatch hz),λz hz=>(nomatch hz),d5⟩,My _,My _⟩,_,rfl⟩ (λi σ T _ h=>aO.of (h.1 _ _ c0)) ?_ ?_
  ·rintro i x σ T hx ⟨L,_,⟨D,B,v,g,b4,a8⟩,z,rfl⟩
   rw[Md]at hx;obtain⟨c,hc,rfl⟩:=MC.mp hx;have d9:i<k.length:=(L'.mp hc).1;ext;refine⟨m,l,td,lb,D,B,v,p,G,c,c9,a3,b,rfl,g,L _ _ b1,L _ _ c1,d3,I,Y,e5,e0,d2,⋯,⋯,λS a1 a7 a0 g' sB l1 l2 O=>?_⟩;exact⟨λy u e=>sB y u (aG e J) (aG e R) (L y u e),d9,a1,a7,a0,g',⋯,⋯⟩
  ·rintro σ T ⟨L,_,⟨D,B,v,g,b4,a8⟩,z,rfl⟩
   refine h1 _ _ ?_;clear h1;rw[Mb]at b4 a8;refine aj λN1 h1=>?_;have c6:∀{D B v S},GS S p G b m l D B v->B.length<=15->v≠[]->v.length<=15->aD H S->N1 [some (V.ref lc),some (V.ref td),some (V.ref m),some (V.ref l),z] S:=fun{D B v S} g2 r15 z0 Jr s2=>by
    refine h1 _ _ ?_;ext;exact⟨am nofun,λtp a9=>q tp m l D B v _ ad (g2.up (ae a9)) r15 z0 Jr (s2.trans (ae a9))⟩
   clear h1;ext;refine⟨_,aO.of g.st,?_⟩;rw[Mb];refine dG (λh0=>?_) (λh0=>c6 g ⋯ (λe=>h0 (by rw[e];rfl)) ⋯ L);have hz:v=[]:=MQ.mp ⋯;subst hz;have hsl:=jo Y;obtain⟨a,n,d4⟩:∃a∈p,gj (aH p) 0=some (V.str (tx a)):=⟨p[0]'⋯,Mi _,(show gj _ ((0:Nat):Int)=_ from a_ (bc ⋯))⟩;obtain⟨j,c2,b3⟩:∃j∈G,gj (tx G).cps.toList 0=some j:=⟨G[0]'⋯,Mi _,by rw[dY];exact(show gj _ ((0:Nat):Int)=_ from a_ (L_ _))⟩;have b2:(tx G).length<=sizeLine:=by rw[av];exact am ⋯
   have U:=L _ _ b1;refine⟨_,aS.of U,_,rfl,_,rfl,_,aO.of (L _ _ c1),_,d4,_,aS.of U,_,rfl,_,rfl,b2,j,b3,am nofun,λtw d0=>⟨Mz _,λla Z=>?_⟩⟩;have s1:=ae (o:=.tup [V.str (tx a),V.int 1,V.int 0,V.str ⟨#[j]⟩,V.str (Str.ofString "")]) d0;have r0:jw p G (0,⟨a,1,a,a,[j],0⟩):=by
    have g:RV.good ⟨a,1,a,a,[j],0⟩:=⟨I _ n,(by decide:(1:Int)<=1),(by decide:(1:Int)<=9),I _ n,I _ n,wc Y c2,(by decide:(0:Int)<=0),(by decide:(0:Int)<=7)⟩;exact⟨⟨(by decide:(0:Nat)<4),g,g.small⟩,n,n,n,j,c2,rfl⟩
   have e1:aA T tw (.tup [V.str (tx a),V.int 1,V.int 0,V.str ⟨#[j]⟩,V.str (Str.ofString "")]) tw=some (.tup (fX (0,⟨a,1,a,a,[j],0⟩))):=ad;generalize aA T tw (.tup [V.str (tx a),V.int 1,V.int 0,V.str ⟨#[j]⟩,V.str (Str.ofString "")])=H1 at s1 e1 Z ⊢;have s2:=ae (o:=.lst []) Z;have e2:aA H1 la (.lst []) la=some (.lst []):=ad;generalize aA H1 la (.lst [])=S at s2 e2 ⊢;have a2:=s2 _ _ (s1 _ _ U);refine⟨_,aS.of a2,_,rfl,_,rfl,b2,j,b3,am nofun,λM d6=>?_⟩;have s3:=ae (o:=.lst [V.str ⟨#[j]⟩]) d6;have e3:aA S M (.lst [V.str ⟨#[j]⟩]) M=some (.lst (aH [[j]])):=ad;generalize aA S M (.lst [V.str ⟨#[j]⟩])=H3 at s3 e3 ⊢;refine⟨_,aS.of (s3 _ _ a2),_,rfl,am nofun,λtm d1=>?_⟩;have s4:=ae (o:=.tup [V.ref M,V.int b]) d1;have e4:aA H3 tm (.tup [V.ref M,V.int b]) tm=some (.tup [V.ref M,V.int b]):=ad;generalize aA H3 tm (.tup [V.ref M,V.int b])=H4 at s4 e4 ⊢;have a4:=s3.trans s4;have a5:=s2.trans a4;have a6:=s1.trans a5;have nl:∀{x u},T x=some u->la≠x:=λe z=>by rw[<- z,gu s1 Z]at e;cases e
   refine⟨m,l,tw,la,tm,M,0,D,B,[],[],(0,⟨a,1,a,a,[j],0⟩),[[j]],p,G,b,rfl,g.up a6,a5 _ _ e1,r0,⋯,by simp,a4 _ _ e2,nl g.rows.1,nl g.st,λy hy=>(nomatch hy),e4,s4 _ _ e3,by simp,Nx.cell rfl,λH5 a1 a7 a0 g' sB l1 l2 O=>?_⟩;refine c6 g' ⋯ (O (.inr ⟨Int.le_refl _,rfl,d7⟩)) (MG l2 (by simp)) λy u e=>sB y u (aG e J) (aG e R) (a6 _ _ (L y u e))
theorem gD:∀{ps:List TR} {ts:List bB},ts∈bK F ps->ts.length=ps.length/\∀(i:Nat) t p,ts[i]?=some t->ps[i]?=some p->t∈F p
 | [],ts,h=>by
  have:ts=[]:=by simpa[bK]using h
  subst this;exact⟨rfl,λi t p e=>by simp at e⟩
 |p::ps,ts,h=>by
  obtain⟨t,k,h⟩:=List.mem_flatMap.mp h;obtain⟨us,a,rfl⟩:=MR.mp h;obtain⟨h1,h2⟩:=gD a;refine⟨by rw[Mm,Mm,h1],λi g j c b=>?_⟩;cases i with
  |zero=>cases c;cases b;exact k
  |succ i=>exact h2 i g j c b
theorem IB(h1:fb p1 r c)(h2:fb p2 r c')(h:c+c'<=6):eY 1 v [p1,p2]=some (put2 p1 p2):=by
 show(if p1.length=p2.length/\(p1.headD []).length+(p2.headD []).length<=6 then some (put2 p1 p2) else none)=_;rw[bC h1.rc h1.r0,bC h2.rc h2.r0,h1.rc.1,h2.rc.1,q07 ⟨rfl,h⟩]
theorem ID(h1:fb p1 r c)(h2:fb p2 r' c)(h:r+r'<=6):eY 2 v [p1,p2]=some (p1++p2):=by
 show(if(p1.headD []).length=(p2.headD []).length/\p1.length+p2.length<=6 then some (p1++p2) else none)=_;rw[bC h1.rc h1.r0,bC h2.rc h2.r0,h1.rc.1,h2.rc.1,q07 ⟨rfl,h⟩]
theorem u3{α:Type}{ts:List α}(h:ts.length=2):∃a b,ts=[a,b]:=by
 match ts,h with
 | [a,b],_=>exact⟨a,b,rfl⟩
theorem GV{α:Type}{ts:List α}(h:ts.length=1):∃a,ts=[a]:=by
 match ts,h with
 | [a],_=>exact⟨a,rfl⟩
theorem GA{rs:Yaa}(hg:∀r∈rs,df r):∀(f:Nat) (p:TR) (t:bB),fm p->p.2.2.2<(f:Int)->t∈RT rs p->∃pc,Sd rs t p pc
 |0,p,t,ok,h,ht=>by
  have:t∈Gn rs 17 p:=ht;rw[mR ok (by simp at h;omega)]at this;cases this
 |f+1,p,t,ok,h,ht=>by
  have gc:=iU hg;rw[pR gc ok]at ht;obtain⟨s,hs,ht⟩:=List.mem_flatMap.mp ht;obtain⟨ts,hts,rfl⟩:=MR.mp ht;obtain⟨hl,hm⟩:=gD hts;have ih:∀p'∈s.2.1,∀t'∈RT rs p',∃pc,Sd rs t' p' pc:=λp' hp' t' ht'=>by
   obtain⟨ok',lt'⟩:=fF gc ok hs hp';exact GA hg f p' t' ok' (by push_cast at h;omega) ht'
  obtain⟨q,hq,hn,hps,_,_,_⟩:=fK hs;have hgq:=hg q (Me hq);have h4:=hgq.k4;obtain⟨nm,r,c,k⟩:=p;obtain⟨n,ps,m⟩:=s;obtain⟨kd,v⟩:=q;have r6:r<=6:=ok.r6;have c6:c<=6:=ok.c6;have r1:1<=r:=ok.r1;have c1:1<=c:=ok.c1;have hn:v.n=nm:=hn;subst hn;simp only at hq hps hl hm ih ⊢;have hk:kd=0\/kd=1\/kd=2\/kd=3:=by simp at h4;omega
  rcases hk with rfl | rfl | rfl | rfl
  ·have e:ps∈(if r=1/\c=1/\k=v.c then[[]] else[]):=hps
   clear hps
   by_cases y:r=1/\c=1/\k=v.c
   ·rw[q07 y]at e
    obtain⟨rfl,rfl,rfl⟩:=y;have:ps=[]:=by simpa using e
    subst this;have:ts=[]:=MQ.mp hl;subst this;exact⟨_,.cell hq⟩
   ·rw[q06 y]at e
    cases e
  ·have hps:ps∈bt v.o1 v.o2 (fB r c) (k-v.c):=hps
   obtain⟨z,x,hps⟩:=List.mem_flatMap.mp hps;obtain⟨w,D,rfl⟩:=MR.mp hps;obtain⟨j,u,rfl⟩:=MR.mp x;have u:=List.mem_range.mp u;obtain⟨a,b,rfl⟩:=u3 hl;obtain⟨B,g⟩:=ih _ (by simp) a (hm 0 a _ rfl rfl);obtain⟨C,l⟩:=ih _ (by simp) b (hm 1 b _ rfl rfl);have m1:=IB (v:=v) (g.pic hg) (l.pic hg) (by show 1+j+(c-(1+j))<=6;omega);have h1:=Sd.beside hq g l m1;rw[show 1+j+(c-(1+j))=c by omega,show v.c+(w+(k-v.c-w))=k by omega]at h1;exact⟨_,h1⟩
  ·have hps:ps∈bt v.o1 v.o2 (fE r c) (k-v.c):=hps
   obtain⟨z,x,hps⟩:=List.mem_flatMap.mp hps;obtain⟨w,D,rfl⟩:=MR.mp hps;obtain⟨j,u,rfl⟩:=MR.mp x;have u:=List.mem_range.mp u;obtain⟨a,b,rfl⟩:=u3 hl;obtain⟨B,g⟩:=ih _ (by simp) a (hm 0 a _ rfl rfl);obtain⟨C,l⟩:=ih _ (by simp) b (hm 1 b _ rfl rfl);have m1:=ID (v:=v) (g.pic hg) (l.pic hg) (by show 1+j+(r-(1+j))<=6;omega);have h1:=Sd.above hq g l m1;rw[show 1+j+(r-(1+j))=r by omega,show v.c+(w+(k-v.c-w))=k by omega]at h1;exact⟨_,h1⟩
  ·have hps:ps∈[[(v.o1,(if v.t%2=1 then c else r),(if v.t%2=1 then r else c),k-v.c)]]:=hps
   have:ps=[(v.o1,(if v.t%2=1 then c else r),(if v.t%2=1 then r else c),k-v.c)]:=by simpa using hps
   subst this;obtain⟨a,rfl⟩:=GV hl;obtain⟨B,g⟩:=ih _ (by simp) a (hm 0 a _ rfl rfl);have h1:=Sd.turn hq g;rw[show v.c+(k-v.c)=k by omega]at h1
   by_cases o:v.t%2=1
   ·simp only[q07 o]at h1;exact⟨_,h1⟩
   ·simp only[q06 o]at h1;exact⟨_,h1⟩
abbrev mf:Stmt:=gZ 48
def II(H:Hp)(l:Addr)(ts:List bB):Prop:=∃vs,H l=some (.lst vs)/\aL H (ts.map bB.d) vs
inductive oZ(R:RC)(CG CN_ CM_:Addr)(vs:List V)(H:Hp)(Q:VK)(E:XK):Prop
 |mk (g dg:Addr) (sg st:M8) (as:Nb) (rs:Yaa) (m:Nat) (p:TR) (_:vs=[.ref g,.str (tx p.1),.int (p.2.1:Int),.int (p.2.2.1:Int),.int p.2.2.2]) (_:dU R H CG dg g sg st as rs) (_:q8 st rs m) (_:((pW st rs m p/\(CN rs p<=300->∀l H',H l=none->II H' l (RT rs p)->aD H H'->Q (.ref l) H')/\(300<CN rs p->∀H',aD H H'->E (.ref CM_) none H'))\/(tx p.1∉(bo (tx st) rs).map (·.1)/\∀H',aD H H'->E (.ref CN_) none H')))
theorem wx:ay ["grammar","name","rows","columns","cost","tree_rows","row","many"] ["grammar","name","rows","columns","cost"] (ak mf):=by walk_at "c"
theorem wD{f CT yaa yac yag:Addr}{tk:Tok}(F:cu K "trees_of" "trees_of" mf f fd)(nb:NB mg)(ct:fQ K CT)(nt:aq K CT "grammar"/\aq K CT "steps"/\aq K CT "totals")(ya5:mg "MOST_TREES"=some (.int 300 tk))(ybm:mg "TooMany"=some (.ref yag))(ybd:XR K yag)
  (yal:↑lu 1 "TreeRows" CT ["self","grammar"] (fM K)) (yae:b0 P w K mg base (bN P w) 72 CT "many_in" ["self","row"] (bz R CG CT yaa 17)) (yau:b0 P w K mg base (bN P w) 107 CT "tree_in" ["self","row","k"] (cg R CG CT yaa yac 17)) :
  aT P w K mg base (bN P w) 108 f fd ["grammar","name","rows","columns","cost"] (oZ R CG yaa yag):=by
 have sc:=wx;walk_at "x"
 ·obtain⟨g,dg,T,S,as,r,m,p,rfl,_⟩:=h;rfl
 ·obtain⟨g,dg,T,S,as,r,m,p,rfl,gr,ok,cs⟩:=h
  have hu:=hr.units;refine⟨_,(af (aB (i:=5) sc.nd rfl (Or.inr rfl) (gw yal b⁻¹ rfl aW (aa (al 0) ac)))
   (af (aB (i:=6) sc.nd rfl (Or.inr rfl) (aN (aa (al 1) (aa (al 2) (aa (al 3) (aa (al 4) ac))))))
   (af (q01 7 sc.nd (bP yae b⁻¹ (bh λ_ _ _ h=>h) (al 5) (aa (al 6) ac)))
   (af (bp (aE (bg.m0 ia) (al 7) (dX (v:=.int 300) rfl ya5 ⟨_,rfl⟩) (aI _))
   (ai (dC ybd rfl rfl ybm (fo λ_ _ _ h=>h) (bH ac)))
   aK)
   (ai (aF (cH ["k"] [5,6] rfl (bI.of i⁻¹) i⁻¹ (c7 rfl nb.range (aa (al 7) ac))
    (λ_ _ _ _=>(ax (i:=0) (by show(["k","tree_rows","row"]:List Str).Nodup;decide +kernel) rfl (Or.inl rfl))) (λ_ _ _ _=>bW) (λ_ _ _ _=>(bP (CX:=bN P w) yau b⁻¹ bq (al 1) (aa (al 2) (aa (al 0) ac))))))))))),?_⟩
  symm;intro x B hx a7 a6;have D:aD H (aA (aA H B (.own x)) x (.ins CT B [])):=(ae a7).trans (ae (by rw[ao (Ne.symm a6)];exact hx));refine⟨x,CT,B,g,rfl,ad,ct.cl,nt,λJ I L f1 f2 a3 ex b1 a9 sx=>⟨rfl,h1 _ _ ?_⟩⟩;clear h1;have s2:aD H L:=λy u e=>sx y u (aG e hx) (D y u e);symm;refine⟨am nofun,λb hb=>h1 _ _ ?_⟩;clear h1;have s3:=ae (o:=.tup (ck p)) hb;have G:=s2.trans s3;have O:gW R CG CT (aA L b (.tup (ck p))) x B g dg J I T S as r m:=yg gr ok G a3 (s3 _ _ ex) (s3 _ _ b1) (s3 _ _ a9);have eb:aA L b (.tup (ck p)) b=some (.tup (ck p)):=ad;have k:∀{H4},bZ J I (aA L b (.tup (ck p))) H4->aD H H4:=λsd y u e=>sd y u (λz=>by rw[z,D.free f1]at e;cases e) (λz=>by rw[z,D.free f2]at e;cases e) (G y u e);have a2:∀{y},aA L b (.tup (ck p)) y=none->H y=none:=λh=>gu G h;change gW R CG CT (aA L b (HO.tup (ck p))) x B g dg J I T S as r m at O;rw[show[V.str (tx p.1),V.int (p.2.1:Int),V.int (p.2.2.1:Int),V.int p.2.2.2]=ck p from rfl];generalize aA L b (.tup (ck p))=H3 at O eb k a2 ⊢;symm;refine⟨B,_,O.at_,rfl,x,B,g,dg,J,I,b,T,S,as,r,m,p,rfl,O,eb,?_⟩;rcases cs with⟨dp,q,bad⟩ | ⟨nn,a8⟩
  rotate_left
  ·exact .inr ⟨nofun,nn,a8 _ (k λ_ _ _ _ e=>e)⟩
  refine .inl ⟨dp,nofun,by have:=dp.k16;omega,λH4 Y a5=>h1 _ _ ?_⟩;clear h1;have a1:=dp.row ok.m6;have a0:=cw ok.gc a1;symm;refine dG (λt1=>?_) (λt1=>?_)
  ·exact⟨am nofun,bad ⋯ H4 (k Y)⟩
  refine h1 _ _ ?_;clear h1;ext;refine⟨⋯,⋯,?_⟩;rw[Mj];refine fH (lo:=0) (n:=CN r p) (λi a σ M=>bZ J I H3 M/\d8 S r m M J I/\i<=CN r p/\aL M (((RT r p).take i).map bB.d) a/\∃z,σ=[z,some (V.ref x),some (V.ref b)]) ⟨Y,a5,Mz _,by rw[M3];exact aL.nil,_,rfl⟩ ?_ ?_ ?_ ?_
  ·rintro i a σ M ⟨_,_,hi,c,_⟩
   rw[c.length,Mb,MN];exact bf ⋯
  ·rintro i a σ M ⟨_,_,h,_⟩
   exact h
  ·rintro i a σ M hi ⟨sd,mm,_,c,y,rfl⟩
   have C:=O.next sd mm;obtain⟨t,ht⟩:∃t,(RT r p)[i]?=some t:=⟨_,L_ ⋯⟩;ext;refine⟨B,_,C.at_,rfl,x,B,g,dg,J,I,b,T,S,as,r,m,p,(i:Int),by simp,C,(O.kp sd).tup eb,nofun,.inl ⟨dp,by have:=dp.k16;omega,λj t' hj Z v H5 U a4 hv=>?_,λh=>q0O h ⋯⟩⟩;have hj:i=j:=by omega
   subst hj;rw[ht]at Z;cases Z;refine⟨sd.trans U,a4,hi,?_⟩;rw[qT ht,Mn];exact aL.app (aL.up (λb xs e=>(C.kp U).tup e) _ c) (aL.cons hv aL.nil)
  ·rintro a σ M ⟨sd,mm,_,c,y,rfl⟩ l hl
   have s':=ae (o:=.lst a) hl;refine q ⋯ l _ (gu (k sd) hl) ⟨a,ad,?_⟩ ((k sd).trans s');rw[<- a0,MM]at c;exact aL.up (dH.of s') _ c
def ld(rs:Yaa):bB->Nat×Nat×Int
 | .n0 i=>(1,1,(rs[i.toNat]?.map λq=>q.2.c).getD 0)
 | .n1 i a=>match rs[i.toNat]? with
  |some q=>(if q.2.t%2=1 then(ld rs a).2.1 else(ld rs a).1,if q.2.t%2=1 then(ld rs a).1 else(ld rs a).2.1,q.2.c+(ld rs a).2.2)
  |none=>(0,0,0)
 | .n2 i a b=>match rs[i.toNat]? with
  |some q=>(if q.1=1 then(ld rs a).1 else(ld rs a).1+(ld rs b).1,if q.1=1 then(ld rs a).2.1+(ld rs b).2.1 else(ld rs a).2.1,q.2.c+((ld rs a).2.2+(ld rs b).2.2))
  |none=>(0,0,0)
theorem Sd.sh{t:bB}{pc:bJ}(h:Sd rs t p pc):ld rs t=p.2:=by
 induction h with
 |cell e=>simp[ld,e]
 |turn e _ ih=>simp only[ld,Mj,e,ih]
 |beside e _ _ _ ih1 ih2=>simp[ld,e,ih1,ih2]
 |above e _ _ _ ih1 ih2=>simp[ld,e,ih1,ih2]
def pr(rs:Yaa)(i:Int)(a:bB):Nat:=if rs[i.toNat]?.map (·.1)=some 1 then(ld rs a).2.1 else(ld rs a).1
def cP(rs:Yaa):bB->Dt
 | .n0 i=>.tup [.int i]
 | .n1 i a=>.tup [.int i,cP rs a]
 | .n2 i a b=>.tup [.int i,.int (pr rs i a:Int),.int (ld rs a).2.2,cP rs a,cP rs b]
theorem j5(rs:Yaa):∀t:bB,(cP rs t).dep=t.dep
 | .n0 i=>rfl
 | .n1 i a=>by simp only[cP,Dt.dep,Dt.deps,bB.dep,j5 rs a];omega
 | .n2 i a b=>by simp only[cP,Dt.dep,Dt.deps,bB.dep,j5 rs a,j5 rs b];omega
theorem wI{F:TR->List bB}:∀{ps:List TR},(∀p∈ps,(F p).Pairwise L)->(bK F ps).Pairwise λts us=>∃pre x y r r',ts=pre++x::r/\us=pre++y::r'/\L x y
 | [],_=>by unfold bK;simp
 |p::ps,h=>by
  unfold bK;refine List.pairwise_flatMap.mpr ⟨λt ht=>?_,(h p q0B).imp fun{a b} hab x hx y hy=>?_⟩
  ·rw[List.pairwise_map]
   refine(wI λp' hp'=>h p' (Mr _ hp')).imp fun{a b} hab=>?_;obtain⟨pre,x,y,r,r',rfl,rfl,l⟩:=hab;exact⟨t::pre,x,y,r,r',rfl,rfl,l⟩
  ·obtain⟨u,_,rfl⟩:=MR.mp hx
   obtain⟨w,_,rfl⟩:=MR.mp hy;exact⟨[],a,b,u,w,rfl,rfl,hab⟩
theorem Ex(z:Str)(rs:Yaa):(bQ z rs).Pairwise (· < ·):=by
 unfold bQ;rw[List.pairwise_filterMap];have:rs.zipIdx.Pairwise (λa b=>a.2<b.2):=by
  have h:=List.pairwise_lt_range (n:=rs.length);rw[List.range_eq_range',<- List.zipIdx_map_snd 0 rs]at h;exact(List.pairwise_map.mp h)
 refine this.imp fun{a b} hab x hx y hy=>?_
 split at hx
 ·split at hy
  ·cases hx;cases hy;exact hab
  ·cases hy
 ·cases hx
def mV(k:Nat)(a:TR):Nat:=if k=1 then a.2.2.1 else a.2.1
theorem oW{left:Int}{k:Nat}:∀{szs:List ((Nat×Nat)×(Nat×Nat))},szs.Pairwise (λa b=>(if k=1 then a.1.2 else a.1.1)<(if k=1 then b.1.2 else b.1.1))->(bt o1 o2 szs left).Pairwise λx y=>∃a b a' b',x=[a,b]/\y=[a',b']/\(mV k a<mV k a'\/mV k a=mV k a'/\a.2.2.2<a'.2.2.2):=fun{szs} h=>by
 unfold bt;refine List.pairwise_flatMap.mpr ⟨λz hz=>?_,h.imp fun{a b} hab x hx y hy=>?_⟩
 ·rw[List.pairwise_map]
  have:(jR (fw z.1.1 z.1.2) (left-fw z.2.1 z.2.2+1)).Pairwise (· < ·):=by
   unfold jR;rw[List.pairwise_map];exact(List.pairwise_lt_range).imp fun{a b} hab=>by omega
  exact this.imp fun{a b} hab=>⟨_,_,_,_,rfl,rfl,.inr ⟨rfl,hab⟩⟩
 ·obtain⟨f1,_,rfl⟩:=MR.mp hx
  obtain⟨f2,_,rfl⟩:=MR.mp hy;exact⟨_,_,_,_,rfl,rfl,.inl hab⟩
theorem EA{q:Nat×RV}(h4:q.1<4):(cE q r c k).Pairwise λx y=>∃a b a' b',x=[a,b]/\y=[a',b']/\(mV q.1 a<mV q.1 a'\/mV q.1 a=mV q.1 a'/\a.2.2.2<a'.2.2.2):=by
 obtain⟨t,v⟩:=q;have:t=0\/t=1\/t=2\/t=3:=by simp at h4;omega
 rcases this with rfl | rfl | rfl | rfl
 ·show(if r=1/\c=1/\k=v.c then[[]] else[]:List (List TR)).Pairwise _
  split<;>simp
 ·refine oW ?_
  unfold fB;rw[List.pairwise_map];exact(List.pairwise_lt_range).imp fun{a b} hab=>by simp;omega
 ·refine oW ?_
  unfold fE;rw[List.pairwise_map];exact(List.pairwise_lt_range).imp fun{a b} hab=>by simp;omega
 ·show([[_]]:List (List TR)).Pairwise _
  simp
theorem Bk(gc:eC rs)(p:TR):(aY rs p).Pairwise λs s'=>s.1<s'.1\/s.1=s'.1/\∃q,rs[s.1]?=some q/\∃a b a' b',s.2.1=[a,b]/\s'.2.1=[a',b']/\(mV q.1 a<mV q.1 a'\/mV q.1 a=mV q.1 a'/\a.2.2.2<a'.2.2.2):=by
 unfold aY
 split
 ·exact List.Pairwise.nil
 ·refine List.pairwise_flatMap.mpr ⟨λi j=>?_,(Ex _ _).imp fun{a b} hab x hx y hy=>.inl ?_⟩
  ·obtain⟨q,g,_⟩:=fD j
   unfold cQ;rw[g]
   try dsimp only
   rw[List.pairwise_filterMap];refine(EA (gc q (Me g)).1).imp fun{a b} hab x hx y hy=>.inr ?_
   split at hx
   ·split at hy
    ·cases hx;cases hy;exact⟨rfl,q,g,hab⟩
    ·cases hy
   ·cases hx
  ·have c:∀{i:Nat} {x:vS},x∈cQ rs p i->x.1=i:=fun{i x} hx=>by
    unfold cQ at hx
    split at hx
    ·obtain⟨ps,_,e⟩:=List.mem_filterMap.mp hx
     split at e
     ·cases e;rfl
     ·cases e
    ·cases hx
   rw[c hx,c hy];exact hab
theorem m4(rs:Yaa):∀t:bB,∃r,cP rs t=.tup (.int t.i::r)
 | .n0 _=>⟨_,rfl⟩
 | .n1 _ _=>⟨_,rfl⟩
 | .n2 _ _ _=>⟨_,rfl⟩
theorem GL{rs:Yaa}(hg:∀r∈rs,df r):∀(f:Nat) (p:TR),fm p->p.2.2.2<(f:Int)->(RT rs p).Pairwise λt u=>TL.LtK (cP rs t) (cP rs u)
 |0,p,ok,h=>by
  show(Gn rs 17 p).Pairwise _;rw[mR ok (by simp at h;omega)];exact List.Pairwise.nil
 |f+1,p,ok,h=>by
  have gc:=iU hg;have len2:∀s∈aY rs p,s.2.1.length<=2:=λs hs=>by
   obtain⟨q,hq,_,hps,_⟩:=fK hs;rcases dl (gc q (Me hq)).1 ok.r1 ok.c1 hps with e | ⟨p',e,_⟩ | ⟨_,z,f,sz,f1,f2,e⟩<;>rw[e]<;>simp
  have shs:∀s∈aY rs p,∀(i:Nat) a t,s.2.1[i]?=some a->t∈RT rs a->ld rs t=a.2:=λs hs i a t e ht=>by
   obtain⟨ok1,_⟩:=fF gc ok hs (Me e);obtain⟨_,d1⟩:=GA hg 17 _ _ ok1 (by have:=ok1.k16;push_cast;omega) ht;exact d1.sh
  rw[pR gc ok];refine List.pairwise_flatMap.mpr ⟨λs hs=>?_,(Bk gc p).imp_of_mem fun{s s'} hs hs' hne x hx y hy=>?_⟩
  ·rw[List.pairwise_map]
   have l2:=len2 s hs;refine(wI (L:=λt u=>TL.LtK (cP rs t) (cP rs u)) λp' hp'=>?_).imp_of_mem fun{a b} ha hb hab=>?_
   ·obtain⟨ok',lt'⟩:=fF gc ok hs hp'
    exact GL hg f p' ok' (by push_cast at h;omega)
   ·obtain⟨l1,m1⟩:=gD ha
    obtain⟨l3,m3⟩:=gD hb;obtain⟨pre,x,y,r,r',rfl,rfl,l⟩:=hab;rw[Mx,Mm]at l1 l3
    match pre,r,r',l1,l3,m1,m3 with
    | [],[],[],_,_,_,_=>exact .at [.int (s.1:Int)] [] [] l
    | [],[z],[z'],k1,_,m1,m3=>
     have e0:s.2.1[0]?=some (s.2.1[0]'(by have:2=s.2.1.length:=k1;omega)):=L_ _;have ex:=shs s hs 0 _ x e0 (m1 0 x _ rfl e0);have ey:=shs s hs 0 _ y e0 (m3 0 y _ rfl e0);show TL.LtK (.tup [.int _,.int (pr rs _ x:Int),.int (ld rs x).2.2,cP rs x,cP rs z]) (.tup [.int _,.int (pr rs _ y:Int),.int (ld rs y).2.2,cP rs y,cP rs z']);unfold pr;rw[ex,ey];exact .at [_,_,_] _ _ l
    | [z],[],[],_,_,_,_=>
     exact .at [_,_,_,_] [] [] l
    |_::_::_,_,_,e,_,_,_=>simp at e;omega
    | [_],_::_,_,e,_,_,_=>simp at e;omega
    | [_],_,_::_,_,e,_,_=>simp at e;omega
    | [],_::_::_,_,e,_,_,_=>simp at e;omega
    | [],_,_::_::_,_,e,_,_=>simp at e;omega
    | [],[],[_],e,e',_,_=>simp at e e';omega
    | [],[_],[],e,e',_,_=>simp at e e';omega
  ·obtain⟨ts,hts,rfl⟩:=MR.mp hx
   obtain⟨us,hus,rfl⟩:=MR.mp hy;rcases hne with h1 | ⟨h1,q,hq,a,b,a',b',e1,e2,ho⟩
   ·obtain⟨r,er⟩:=m4 rs (xP (s.1:Int) ts)
    obtain⟨r',er'⟩:=m4 rs (xP (s'.1:Int) us);rw[er,er',Au,Au];exact .at [] _ _ (.int ⋯)
   ·obtain⟨l1,m1⟩:=gD hts
    obtain⟨l3,m3⟩:=gD hus;have g0:s.2.1[0]?=some a:=by rw[e1];rfl
    have g:s'.2.1[0]?=some a':=by rw[e2];rfl
    obtain⟨x,y,rfl⟩:=u3 (by rw[l1,e1];rfl);obtain⟨c,m,rfl⟩:=u3 (by rw[l3,e2];rfl);have ex:=shs s hs 0 _ x g0 (m1 0 x _ rfl g0);have j:=shs s' hs' 0 _ c g (m3 0 c _ rfl g);rw[<- h1];show TL.LtK (.tup [.int _,.int (pr rs _ x:Int),.int (ld rs x).2.2,cP rs x,cP rs y]) (.tup [.int _,.int (pr rs _ c:Int),.int (ld rs c).2.2,cP rs c,cP rs m]);have k:∀(t:bB) (a:TR),ld rs t=a.2->pr rs (s.1:Int) t=mV q.1 a:=λt a e=>by
     unfold pr mV;rw[Mj,hq,e];simp
    rw[k x a ex,k c a' j,ex,j];rcases ho with ho | ⟨ho,n⟩
    ·exact .at [_] _ _ (.int ⋯)
    ·rw[ho];exact .at [_,_] _ _ (.int n)
theorem HC{rs:Yaa}(hg:∀r∈rs,df r){p:TR}(ok:fm p):(RT rs p).Pairwise λt u=>TL.LtK (cP rs t) (cP rs u):=GL hg 17 p ok (by have:=ok.k16;push_cast;omega)
theorem Sd.inv{t:bB}{pc:bJ}(h:Sd rs t p pc):∃(n:Nat) (v:RV),(t=.n0 n/\rs[n]?=some (0,v)/\pc=[v.sg])\/(∃t1 p1 q1,t=.n1 n t1/\rs[n]?=some (3,v)/\Sd rs t1 p1 q1/\pc=turned q1 v.t.toNat)\/(∃kd t1 t2 p1 p2 q1 q2,(kd=1\/kd=2)/\t=.n2 n t1 t2/\rs[n]?=some (kd,v)/\Sd rs t1 p1 q1/\Sd rs t2 p2 q2/\eY kd v [q1,q2]=some pc):=by
 cases h with
 |cell e=>exact⟨_,_,.inl ⟨rfl,e,rfl⟩⟩
 |turn e s=>exact⟨_,_,.inr (.inl ⟨_,_,_,rfl,e,s,rfl⟩)⟩
 |beside e s1 s2 m=>exact⟨_,_,.inr (.inr ⟨1,_,_,_,_,_,_,.inl rfl,rfl,e,s1,s2,m⟩)⟩
 |above e s1 s2 m=>exact⟨_,_,.inr (.inr ⟨2,_,_,_,_,_,_,.inr rfl,rfl,e,s1,s2,m⟩)⟩
abbrev qh:Stmt:=gZ 73
inductive nX(n:Nat)(vs:List V)(H:Hp)(Q:VK)(_E:XK):Prop
 |mk (lr:Addr) (v:V) (t:bB) (ts:Nb) (rs:Yaa) (p:TR) (pc:bJ) (_:vs=[.ref lr,v,.int 6]) (_:fL H lr ts rs) (_:(∀r∈rs,df r)) (_:aU H t.d v) (_:Sd rs t p pc) (_:t.dep<=n) (_:cN H pc Q)
theorem tV:ay ["_law_rules","_law_tree","_law_side","_law_rule_here","_law_one","_law_other"] ["_law_rules","_law_tree","_law_side"] (ak qh):=by walk_at "c"
theorem s_{f:Addr}(F:cu K "_law_laid" "_law_laid" qh f fd)(nb:NB mg)(zHa:↑dO 1 "_law_turned" ["_law_picture","_law_t"] (jM K))(zIa:↑dO 1 "_law_joined" ["_law_one","_law_other","_law_side","_law_most"] j9)(hm:mg "_law_laid"=some (.ref f))(hk:W.keepIn K (.ref f)=true)(hb:bR K fd ["_law_rules","_law_tree","_law_side"] []):∀n,n<=60->↑aT (n+2) f fd ["_law_rules","_law_tree","_law_side"] (nX n)
 |0,_=>by
  refine F.ok tV (λvs H Q E h=>?_) (λcdv A outer s H vs Q E hr h=>?_)
  ·obtain⟨lr,v,t,ts,rs,p,pc,rfl,_⟩:=h;rfl
  ·obtain⟨lr,v,t,ts,rs,p,pc,rfl,_,_,_,_,hd,_⟩:=h
   have:=t.dep1;omega
 |n+1,hn=>by
  have sc:=tV;have zUa:↑dO (n+2) "_law_laid" ["_law_rules","_law_tree","_law_side"] (nX n):=⟨f,fd,s_ F nb zHa zIa hm hk hb n ⋯,hm,hk,hb⟩;walk_at "f"
  ·obtain⟨lr,v,t,ts,rs,p,pc,rfl,hR,hg,ht,sd,hd,q⟩:=h
   have hu:=hr.units;refine⟨_,(af (q01 3 sc.nd (az aQ (al 0) e⁻¹ (λ_ _=>rfl)))
   (af (bp (aE dn (az aw (al 3) ah (λ_ _=>rfl)) ah (aI _))
   (ai (aF (bA (aa (az aw (al 3) ah (λ_ _=>rfl)) ac))))
   aK)
   (af (q01 4 sc.nd (aJ zUa (hr.mono ⋯) rfl aW (aa (al 0) (aa e⁻¹ (aa (al 2) ac)))))
   (af (bp (PW.pt (lK (aE vx (al 4) fY (aI _)) (iq (aE dn (az aw (al 3) ah (λ_ _=>rfl)) ah (aI _)))))
   (ai (aF (rM (aE vx (al 4) fY (aI _)) (al 4) (aJ zHa (hr.mono ⋯) rfl aW (aa (al 4) (aa (az aw (al 3) ah (λ_ _=>rfl)) ac))))))
   aK)
   (af (q01 5 sc.nd (aJ zUa (hr.mono ⋯) rfl aW (aa (al 0) (aa e⁻¹ (aa (al 2) ac)))))
   (af (bp (aE vx (al 5) fY (aI _))
   (ai (aF fY))
   aK)
   (ai (aF (aJ zIa (hr.mono ⋯) rfl aW (aa (al 4) (aa (al 5) (aa (gn dn (az aw (al 3) ah (λ_ _=>rfl)) ah (aI _)) (aa (al 2) ac))))))))))))),?_⟩
   have row:∀(k:Nat) (r:Nat×RV),rs[k]?=some r->∃tk,gj (ts.map V.ref) (k:Int)=some (V.ref tk)/\H tk=some (.tup (fX r)):=λk r e=>by
    obtain⟨tk,htk⟩:∃tk,ts[k]?=some tk:=⟨_,L_ (by have:=(L'.mp e).1;have:=hR.2.1;omega)⟩;exact⟨tk,a_ (by rw[Md,htk];rfl),hR.2.2 k tk r htk e⟩
   obtain⟨a,vs,rfl,hta,htr⟩:=bB.val ht;obtain⟨k,v,⟨rfl,e,rfl⟩ | ⟨t1,p1,q1,rfl,e,s1,rfl⟩ | ⟨kd,t1,t2,p1,p2,q1,q2,hkd,rfl,e,s1,s2,m⟩⟩:=sd.inv
   ·obtain⟨tk,ha,htk⟩:=row k _ e
    symm;refine⟨_,aS.of hta,_,fU _ _,_,_,rfl,aO.of hR.1,_,ha,h1 _ _ ?_⟩;grind;refine⟨_,aS.of htk,_,rfl,rfl,?_⟩;rw[q07 rfl];exact⟨_,aS.of htk,_,rfl,am nofun,λl hl=>q l _ hl ad (ae hl)⟩
   ·obtain⟨tk,ha,htk⟩:=row k _ e
    symm;refine⟨_,aS.of hta,_,fU _ _,_,_,rfl,aO.of hR.1,_,ha,h1 _ _ ?_⟩;grind;refine⟨_,aS.of htk,_,rfl,rfl,?_⟩;rw[q06 nofun];refine h1 _ _ ?_;grind;obtain⟨x1,ys,rfl,hx1,htr2⟩:=(show aL H [t1.d] vs from htr).uncons;have hd1:t1.dep<=n:=by have:t1.dep+1<=n+1:=hd;omega
    refine⟨_,aS.of hta,x1,(show gj (V.int _::x1::ys) ((1:Nat):Int)=_ from a_ rfl),lr,x1,t1,ts,rs,p1,q1,rfl,hR,hg,hx1,s1,hd1,λl H1 hl o b=>h1 _ _ ?_⟩;grind;have g:=b _ _ htk;refine⟨_,aS.of g,_,rfl,rfl,?_⟩;rw[q07 rfl];have Y:=(hg _ (Me e)).good;have t0:0<=v.t:=Y.t0;have t7:v.t<=7:=Y.t7;have y:=s1.pic hg;have:=y.r6;have:=y.c6;refine⟨_,aS.of g,_,rfl,l,q1,p1.2.1,p1.2.2.1,v.t.toNat,by rw[MY t0],o,y.rc,y.r0,y.c0,⋯,⋯,⋯,λJ H2 o C j=>q J H2 (b.free o) C (b.trans j)⟩
   ·obtain⟨tk,ha,htk⟩:=row k _ e
    symm;refine⟨_,aS.of hta,_,fU _ _,_,_,rfl,aO.of hR.1,_,ha,h1 _ _ ?_⟩;clear h1;have S:fX (kd,v)=[.str (tx v.n),.int v.c,.int (kd:Int),.str (tx v.o1),.str (tx v.o2)]:=by rcases hkd with rfl | rfl<;>rfl
    rw[S]at htk;symm;refine⟨_,aS.of htk,_,rfl,rfl,?_⟩;rw[q06 (by intro e;have:=V.int.inj e;omega)];refine h1 _ _ ?_;grind;obtain⟨x1,ys,rfl,hx1,htr2⟩:=(show aL H [t1.d,t2.d] vs from htr).uncons;obtain⟨G,U,rfl,L,htr3⟩:=htr2.uncons;have hd1:max t1.dep t2.dep+1<=n+1:=hd;refine⟨_,aS.of hta,x1,(show gj (V.int _::x1::G::U) ((1:Nat):Int)=_ from a_ rfl),lr,x1,t1,ts,rs,p1,q1,rfl,hR,hg,hx1,s1,⋯,λl H1 hl o b=>h1 _ _ ?_⟩;grind;have g:=b _ _ htk;refine⟨_,aS.of g,_,rfl,rfl,?_⟩;rw[q06 (by intro e;have:=V.int.inj e;omega)];refine h1 _ _ ?_;grind;refine⟨_,aS.of (b _ _ hta),G,(show gj (V.int _::x1::G::U) ((2:Nat):Int)=_ from a_ rfl),lr,G,t2,ts,rs,p2,q2,rfl,hR.up b,hg,L.up (dH.of b) _,s2,⋯,λJ H2 C R j=>h1 _ _ ?_⟩;clear h1;have u:=b.trans j;symm;refine h1 _ _ ?_;clear h1;ext;have B:=j _ _ g;have D:(if decide (V.int (kd:Int)=V.int 1)=true then 1 else 2)=kd:=by rcases hkd with rfl | rfl<;>rfl
    refine⟨_,aS.of B,_,rfl,rfl,l,J,q1,q2,p1.2.1,p1.2.2.1,p2.2.1,p2.2.2.1,decide (V.int (kd:Int)=V.int 1),6,rfl,j _ _ o,R,s1.pic hg,s2.pic hg,Int.le_refl _,λpc' x l3 Z O M I=>?_,λZ hn _=>?_⟩
    ·rw[D]at x
     have T:=(x v).symm.trans m;cases T;exact q l3 Z (u.free O) M (u.trans I)
    ·rw[D]at hn
     have T:=(hn rfl v).symm.trans m;cases T
theorem KB{rs:Yaa}{t:bB}{n:Nat}{q:Nat×RV}(hi:t.i=(n:Int))(hq:rs[n]?=some q):q.2.c+(t.ps.map λt=>(ld rs t).2.2).sum=(ld rs t).2.2:=by
 cases t<;>(simp only[bB.i]at hi;subst hi;simp[ld,bB.ps,hq])
abbrev qq:Stmt:=gZ 74
inductive oO(n:Nat)(vs:List V)(H:Hp)(Q:VK)(_E:XK):Prop
 |mk (lr:Addr) (v:V) (tl:Nb) (rs:Yaa) (t:bB) (p:TR) (pc:bJ) (_:vs=[.ref lr,v]) (_:fL H lr tl rs) (_:(∀r∈rs,df r)) (_:aU H t.d v) (_:Sd rs t p pc) (_:t.dep<=n) (_:∀H',aD H H'->Q (.int p.2.2.2) H')
theorem tj:ay ["_law_rules","_law_tree"] ["_law_rules","_law_tree"] (ak qq):=by walk_at "c"
theorem tq{f:Addr}(F:cu K "_law_cost" "_law_cost" qq f fd)(nb:NB mg)(yak:mg "sum"=none)(hm:mg "_law_cost"=some (.ref f))(hk:W.keepIn K (.ref f)=true)(hb:bR K fd ["_law_rules","_law_tree"] []):∀n,n<=60->↑aT (n+1) f fd ["_law_rules","_law_tree"] (oO n)
 |0,_=>by
  refine F.ok tj (λvs H Q E h=>?_) (λcdv A outer s H vs Q E hr h=>?_)
  ·obtain⟨lr,v,tl,rs,t,p,pc,rfl,_⟩:=h;rfl
  ·obtain⟨lr,v,tl,rs,t,p,pc,rfl,_,_,_,_,h,_⟩:=h
   have:=t.dep1;omega
 |n+1,hn=>by
  have sc:=tj;have zsb:↑dO (n+1) "_law_cost" ["_law_rules","_law_tree"] (oO n):=⟨f,fd,tq F nb yak hm hk hb n ⋯,hm,hk,hb⟩;walk_at "f"
  ·obtain⟨lr,v,tl,rs,t,p,pc,rfl,hR,hg,ht,sd,hd,q⟩:=h
   refine⟨_,(ai (aF (au (bg.m0 bO) (az aw (az aQ (al 0) e⁻¹ (λ_ _=>rfl)) ah (λ_ _=>rfl)) (aC (kP rfl) rfl yak uG (aa (cH ["_law_part"] [0] rfl (bI.of i⁻¹) i⁻¹ (u7 (cX oM (al 1) (dN ah) fq))
    (λ_ _ _ _=>(ax (i:=0) (by show(["_law_part","_law_rules"]:List Str).Nodup;decide +kernel) rfl (Or.inl rfl))) (λ_ _ _ _=>bW) (λ_ _ _ _=>(aJ zsb (hr.mono ⋯) rfl aW (aa (al 1) (aa (al 0) ac))))) ac))))),?_⟩
   obtain⟨a,vs,rfl,hta,htr⟩:=bB.val ht;have hvl:=nE htr;obtain⟨i,r,ps,hi,hri,_,hpl,hp2,hsub,_⟩:=sd.node hg;rw[hi]at hta;obtain⟨ti,hti⟩:∃ti,tl[i]?=some ti:=⟨_,L_ (by rw[hR.2.1];exact(L'.mp hri).1)⟩;ext;refine⟨_,aS.of hta,_,fU _ _,_,_,rfl,aO.of hR.1,V.ref ti,a_ (by rw[Md,hti];rfl),ti,rfl,_,aS.of (hR.2.2 i ti r hti hri),_,(v6 r).2,_,aS.of hta,mY _ _,λp1 hp=>?_⟩;rw[Da];have s1:=ae (o:=.tup vs) hp;have ep:aA H p1 (.tup vs) p1=some (.tup vs):=ad;generalize aA H p1 (.tup vs)=H1 at s1 ep ⊢;refine⟨⟨_,aS.of ep⟩,?_⟩;refine wH (xs:=vs) (λj acc σ H'=>aD H H'/\H' p1=some (.tup vs)/\acc=((t.ps.map λt=>(ld rs t).2.2).take j).map V.int/\j<=vs.length/\∃z,σ=[z,some (V.ref lr)]) ⟨s1,ep,rfl,Mz _,_,rfl⟩ ?_ (λj acc σ H' h=>h.2.2.2.1) (λj acc σ H' h=>aS.of h.2.1) ?_ ?_
   ·rintro j acc σ H' ⟨_,_,rfl,hj,_⟩
    rw[Mb,MN];exact bf ⋯
   ·rintro j x acc σ H' hx ⟨sm,hp',rfl,hj,z,rfl⟩
    obtain⟨s',hs',ht'⟩:=oy htr hx;have hlt:=(bB.lt (Me hs')).1;have hjl:=(L'.mp hs').1;obtain⟨pc',sd',_⟩:=hsub j s' _ hs' (L_ ⋯);ext;refine⟨lr,x,tl,rs,s',_,pc',rfl,hR.up sm,hg,ht'.up (dH.of sm) _,sd',⋯,λH2 s2=>⟨sm.trans s2,s2 _ _ hp',?_,(L'.mp hx).1⟩⟩;rw[List.take_succ,Md,hs',<- sd'.sh];simp
   ·rintro acc σ H' ⟨sm,hp',rfl,_,_⟩
    intro l hl;rw[hvl,<- Mb (f:=λt=>(ld rs t).2.2),MM];refine⟨_,aO.of ad,_,rfl,?_⟩;rw[KB hi hri,sd.sh];exact q _ (sm.trans (ae hl))
abbrev uN:Stmt:=gZ 75
inductive rf(n:Nat)(vs:List V)(H:Hp)(Q:VK)(_E:XK):Prop
 |mk (lr:Addr) (v:V) (t:bB) (ts:Nb) (rs:Yaa) (p:TR) (pc:bJ) (_:vs=[.ref lr,v]) (_:fL H lr ts rs) (_:(∀r∈rs,df r)) (_:aU H t.d v) (_:Sd rs t p pc) (_:t.dep<=n) (_:∀v' H',aU H' (cP rs t) v'->aD H H'->Q v' H')
theorem xc:ay ["_law_rules","_law_tree","_law_rule_here","_law_first","_law_extent","_law_cost_here"] ["_law_rules","_law_tree"] (ak uN):=by walk_at "c"
theorem EZ(i:Int):aU H (.int i) (.int i):=by unfold aU;rfl
theorem wL{f:Addr}(F:cu K "_law_key" "_law_key" uN f fd)(nb:NB mg)(zUa:↑dO 18 "_law_laid" ["_law_rules","_law_tree","_law_side"] (nX 16))(zsb:↑dO 17 "_law_cost" ["_law_rules","_law_tree"] (oO 16))(hm:mg "_law_key"=some (.ref f))(hk:W.keepIn K (.ref f)=true)(hb:bR K fd ["_law_rules","_law_tree"] []):∀n,n<=16->↑aT (n+19) f fd ["_law_rules","_law_tree"] (rf n)
 |0,_=>by
  refine F.ok xc (λvs H Q E h=>?_) (λcdv A outer s H vs Q E hr h=>?_)
  ·obtain⟨lr,v,t,ts,rs,p,pc,rfl,_⟩:=h;rfl
  ·obtain⟨lr,v,t,ts,rs,p,pc,rfl,_,_,_,_,hd,_⟩:=h
   have:=t.dep1;omega
 |n+1,hn=>by
  have sc:=xc;have ztb:↑dO (n+19) "_law_key" ["_law_rules","_law_tree"] (rf n):=⟨f,fd,wL F nb zUa zsb hm hk hb n ⋯,hm,hk,hb⟩;walk_at "f"
  ·obtain⟨lr,v,t,ts,rs,p,pc,rfl,hR,hg,ht,sd,hd,q⟩:=h
   have hu:=hr.units;refine⟨_,(af (q01 2 sc.nd (az aQ (al 0) e⁻¹ (λ_ _=>rfl)))
   (af (bp (aE dn (az aw (al 2) ah (λ_ _=>rfl)) ah (aI _))
   (ai (aF (aN (aa e⁻¹ ac))))
   aK)
   (af (bp (aE dn (az aw (al 2) ah (λ_ _=>rfl)) ah (aI _))
   (ai (aF (aN (aa e⁻¹ (aa (aJ ztb (hr.mono ⋯) rfl aW (aa (al 0) (aa e⁻¹ ac))) ac)))))
   aK)
   (af (q01 3 sc.nd (aJ zUa (hr.mono ⋯) rfl aW (aa (al 0) (aa e⁻¹ (bx ac)))))
   (af (q01 4 sc.nd (aC aV rfl nb.len aR (aa (al 3) ac)))
   (af (bp (aE dn (az aw (al 2) ah (λ_ _=>rfl)) ah (aI _))
   (ai (q01 4 sc.nd (aC aP rfl nb.len aR (aa (az aQ (al 3) ah (λ_ _=>rfl)) ac))))
   aK)
   (af (q01 5 sc.nd (aJ zsb (hr.mono ⋯) rfl aW (aa (al 0) (aa e⁻¹ ac))))
   (ai (aF (aN (aa e⁻¹ (aa (al 4) (aa (al 5) (aa (aJ ztb (hr.mono ⋯) rfl aW (aa (al 0) (aa e⁻¹ ac))) (aa (aJ ztb (hr.mono ⋯) rfl aW (aa (al 0) (aa e⁻¹ ac))) ac))))))))))))))),?_⟩
   have row:∀(k:Nat) (r:Nat×RV),rs[k]?=some r->∃tk,gj (ts.map V.ref) (k:Int)=some (V.ref tk)/\H tk=some (.tup (fX r)):=λk r e=>by
    obtain⟨tk,htk⟩:∃tk,ts[k]?=some tk:=⟨_,L_ (by have:=(L'.mp e).1;have:=hR.2.1;omega)⟩;exact⟨tk,a_ (by rw[Md,htk];rfl),hR.2.2 k tk r htk e⟩
   obtain⟨a,vs,rfl,hta,htr⟩:=bB.val ht;obtain⟨k,v,⟨rfl,e,rfl⟩ | ⟨t1,p1,q1,rfl,e,s1,rfl⟩ | ⟨kd,t1,t2,p1,p2,q1,q2,hkd,rfl,e,s1,s2,m⟩⟩:=sd.inv
   ·obtain⟨tk,ha,htk⟩:=row k _ e
    symm;refine⟨_,aS.of hta,_,fU _ _,_,_,rfl,aO.of hR.1,_,ha,h1 _ _ ?_⟩;clear h1;ext;refine⟨_,aS.of htk,_,rfl,rfl,?_⟩;rw[q07 rfl];refine⟨_,aS.of hta,_,fU _ _,am nofun,λb hb=>q _ _ (aU.node ad aL.nil) (ae hb)⟩
   ·obtain⟨tk,ha,htk⟩:=row k _ e
    symm;refine⟨_,aS.of hta,_,fU _ _,_,_,rfl,aO.of hR.1,_,ha,h1 _ _ ?_⟩;grind;refine⟨_,aS.of htk,_,rfl,rfl,?_⟩;rw[q06 nofun];refine h1 _ _ ?_;clear h1;ext;refine⟨_,aS.of htk,_,rfl,rfl,?_⟩;rw[q07 rfl];obtain⟨x1,ys,rfl,hx1,htr2⟩:=(show aL H [t1.d] vs from htr).uncons;have hd1:t1.dep<=n:=by have:t1.dep+1<=n+1:=hd;omega
    refine⟨_,aS.of hta,_,fU _ _,_,aS.of hta,x1,(show gj (V.int _::x1::ys) ((1:Nat):Int)=_ from a_ rfl),lr,x1,t1,ts,rs,p1,q1,rfl,hR,hg,hx1,s1,hd1,λv' H1 a0 j=>⟨am nofun,λb hb=>q _ _ (aU.node ad (aL.cons (a0.up (dH.of (ae hb)) _) aL.nil)) (j.trans (ae hb))⟩⟩
   ·obtain⟨tk,ha,htk⟩:=row k _ e
    symm;refine⟨_,aS.of hta,_,fU _ _,_,_,rfl,aO.of hR.1,_,ha,h1 _ _ ?_⟩;clear h1;have a2:fX (kd,v)=[.str (tx v.n),.int v.c,.int (kd:Int),.str (tx v.o1),.str (tx v.o2)]:=by rcases hkd with rfl | rfl<;>rfl
    rw[a2]at htk;symm;refine⟨_,aS.of htk,_,rfl,rfl,?_⟩;rw[q06 (by intro e;have:=V.int.inj e;omega)];refine h1 _ _ ?_;grind;refine⟨_,aS.of htk,_,rfl,rfl,?_⟩;rw[q06 (by intro e;have:=V.int.inj e;omega)];refine h1 _ _ ?_;clear h1;obtain⟨x1,ys,rfl,hx1,htr2⟩:=(show aL H [t1.d,t2.d] vs from htr).uncons;obtain⟨G,zs,rfl,U,htr3⟩:=htr2.uncons;have hd1:max t1.dep t2.dep+1<=n+1:=hd;have y:gj (V.int (k:Int)::x1::G::zs) ((1:Nat):Int)=some x1:=a_ rfl;have D:gj (V.int (k:Int)::x1::G::zs) ((2:Nat):Int)=some G:=a_ rfl;have O:=s1.pic hg;symm;refine⟨_,aS.of hta,x1,y,lr,x1,t1,ts,rs,p1,q1,rfl,hR,hg,hx1,s1,⋯,λl H1 hl M j=>h1 _ _ ?_⟩;grind;refine⟨_,aO.of M,h1 _ _ ?_⟩;clear h1;have J:=j _ _ htk;have L:=j _ _ hta;obtain⟨a1,a4⟩:=dS O.rc O.r0;rw[ar,O.rc.1];have x:(if kd=1 then p1.2.2.1 else p1.2.1)=pr rs (k:Int) t1:=by
     unfold pr;rw[Mj,e,s1.sh];simp
    refine aj λN1 h1=>?_;have B:N1 [some (V.ref lr),some (V.ref a),some (V.ref tk),some (V.ref l),some (V.int (pr rs (k:Int) t1:Int)),none] H1:=by
     refine h1 _ _ ?_;grind;refine⟨_,aS.of L,x1,y,lr,x1,ts,rs,t1,p1,q1,rfl,hR.up j,hg,hx1.up (dH.of j) _,s1,⋯,λH2 S=>h1 _ _ ?_⟩;clear h1;ext;have g:=j.trans S;refine⟨_,aS.of (g _ _ hta),_,fU _ _,_,aS.of (g _ _ hta),x1,y,lr,x1,t1,ts,rs,p1,q1,rfl,hR.up g,hg,hx1.up (dH.of g) _,s1,⋯,λv1 H3 Z R=>?_⟩;have u:=g.trans R;refine⟨_,aS.of (u _ _ hta),G,D,lr,G,t2,ts,rs,p2,q2,rfl,hR.up u,hg,U.up (dH.of u) _,s2,⋯,λv2 H4 Y I=>⟨am nofun,λb hb=>q _ _ ?_ ((u.trans I).trans (ae hb))⟩⟩;have T:=ae (o:=.tup [V.int (k:Int),V.int (pr rs (k:Int) t1:Int),V.int p1.2.2.2,v1,v2]) hb;have a5:p1.2.2.2=(ld rs t1).2.2:=by rw[s1.sh]
     rw[a5]at T ⊢;exact aU.node ad (aL.cons (EZ _) (aL.cons (EZ _) (aL.cons ((Z.up (dH.of I) _).up (dH.of T) _) (aL.cons (Y.up (dH.of T) _) aL.nil))))
    ext;refine⟨_,aS.of J,_,rfl,rfl,?_⟩;refine dG (λC=>?_) (λC=>?_)
    ·have a3:kd=1:=by have:=V.int.inj C;omega
     rw[q07 a3]at x;refine⟨_,aO.of M,_,(show gj _ ((0:Nat):Int)=_ from a_ (bc a1)),_,rfl,by rw[av];exact am (by have:=O.c6;omega),?_⟩;rw[av,a4,x];exact B
    ·rw[q06 (λh=>C (by rw[h];rfl))]at x
     rw[x];exact B
theorem Ab:∀t:bB,Dt.dep t.d=t.dep
 | .n0 i=>rfl
 | .n1 i a=>by simp only[bB.d,Dt.dep,Dt.deps,bB.dep,Ab a];omega
 | .n2 i a b=>by simp only[bB.d,Dt.dep,Dt.deps,bB.dep,Ab a,Ab b];omega
abbrev ja:Stmt:=gZ 76
inductive lN(R:RC)(CG:Addr)(vs:List V)(H:Hp)(Q:VK)(_E:XK):Prop
 |mk (g dg:Addr) (sg st:M8) (as:Nb) (rs:Yaa) (m:Nat) (z:FI) (p:TR) (_:vs=[.ref g,.ref z.a]) (_:dU R H CG dg g sg st as rs) (_:q8 st rs m) (_:(∀r∈rs,df r)) (_:z.at H) (_:Sd rs z.x.t p z.x.p) (_:p.1=z.x.nm) (_:p.2.2.2=z.x.c) (_:pW st rs m p) (_:∀(k:Nat) H',(RT rs p)[k]?=some z.x.t->aD H H'->Q (.int (k:Int)) H')
theorem sW:ay ["_law_grammar_here","_law_one","_law_tree","_law_name","_law_picture","_law_cost_here","_law_rows","_law_columns","_law_many","_law_k"] ["_law_grammar_here","_law_one"] (ak ja):=by walk_at "c"
theorem sK{f yaa yac yag:Addr}(F:cu K "_law_numbered" "_law_numbered" ja f fd)(nb:NB mg)(zVd:↑dO 1 "_law_whole" ["_law_x"] qd)(ybl:dO P w K mg base (bN P w) 73 "count_trees" ["grammar","name","rows","columns","cost"] (kl R CG yaa))(ya9:dO P w K mg base (bN P w) 108 "tree_at" ["grammar","name","rows","columns","cost","k"] (rY R CG yaa yac))(ybe:dO P w K mg base (bN P w) 90 "number_of" ["grammar","tree"] (m8 R CG))(yaY:dO P w K mg base (bN P w) 108 "trees_of" ["grammar","name","rows","columns","cost"] (oZ R CG yaa yag)):↑aT 109 f fd ["_law_grammar_here","_law_one"] (lN R CG):=by
 have sc:=sW;walk_at "f"
 ·obtain⟨g,dg,sg,st,as,D,m,z,p,rfl,gr,a,r,⟨zt,zv,zl,zn⟩,sd,O,S,u,q⟩:=h
  have hu:=hr.units;have hu2:=hr.units210;refine⟨_,(af (qV (al 1) (fg (n:=4) rfl (aM (q02 2 sc.nd) (aM (q02 3 sc.nd) (aM (q02 4 sc.nd) (aM (q02 5 sc.nd) cz))))))
   (af (q01 6 sc.nd (aC aV rfl nb.len aR (aa (al 4) ac)))
   (af (q01 7 sc.nd (aC aP rfl nb.len aR (aa (az aQ (al 4) ah (λ_ _=>rfl)) ac)))
   (af (q01 8 sc.nd (aJ (CX:=bN P w) ybl b⁻¹ rfl bq (aa (al 0) (aa (al 3) (aa (al 6) (aa (al 7) (aa (al 5) ac)))))))
   (af (q01 9 sc.nd (aJ (CX:=bN P w) ybe b⁻¹ rfl bq (aa (al 0) (aa (al 2) ac))))
   (af (bp (PW.pt (lK (lY (o6 (aJ zVd b⁻¹ rfl aW (aa (al 9) ac)) λ_=>rfl)) (iq (lY (xw (bg.m0 lQ) (bg.m0 rF) ah (al 9) (al 8))))))
   (ai (aF fY))
   aK)
   (af (bp (aE (D1 hu) (aJ (CX:=bN P w) ya9 b⁻¹ rfl bq (aa (al 0) (aa (al 3) (aa (al 6) (aa (al 7) (aa (al 5) (aa (al 9) ac))))))) (al 2) (aI _))
   (ai (aF fY))
   aK)
   (af (bp (PW.pt (iu (aE (bg.m0 lQ) (al 8) ah (aI _)) (ig (aE (D1 hu) (az aQ (aJ (CX:=bN P w) yaY b⁻¹ rfl bq (aa (al 0) (aa (al 3) (aa (al 6) (aa (al 7) (aa (al 5) ac)))))) (al 9) (λ_ _=>rfl)) (al 2) (aI _)))))
   (ai (aF fY))
   aK)
   (ai (aF (al 9))))))))))),?_⟩
  have C:=sd.pic r;obtain⟨U,a0⟩:=dS C.rc C.r0;have ok:=u.row (by have:=a.m6;omega);have e:=cw a.gc ok;have T:=(sd.low r).2;have hdc:=z.x.t.dep_cnt;have k16:=u.k16;have a4:=C.c6;obtain⟨p1,I,G,p4⟩:=p;simp only at O S;subst O S;simp only at C U a0 e T k16 a4;symm;refine⟨_,aS.of zt,rfl,_,_,rfl,_,_,rfl,_,_,rfl,_,_,rfl,rfl,h1 _ _ ?_⟩;grind;refine⟨_,aO.of zl,h1 _ _ ?_⟩;clear h1;rw[ar,C.rc.1];symm;refine⟨_,aO.of zl,_,(show gj _ ((0:Nat):Int)=_ from a_ (bc U)),_,rfl,by rw[av];exact am ⋯,h1 _ _ ?_⟩;clear h1;rw[av,a0];symm;refine⟨g,dg,sg,st,as,D,m,(z.x.nm,I,G,z.x.c),rfl,gr,a,.inl ⟨u,λH1 s1=>h1 _ _ ?_⟩⟩;grind;refine⟨g,dg,sg,st,as,D,m,z.v,z.x.t,(z.x.nm,I,G,z.x.c),z.x.p,rfl,gr.up s1,a,r,zv.up (dH.of s1) _,sd,u,λk H2 Y s2=>h1 _ _ ?_⟩;clear h1;have hk2:k<CN D (z.x.nm,I,G,z.x.c):=by have:=(L'.mp Y).1;omega
  have o:=s1.trans s2;symm;refine⟨_,rfl,_,rfl,?_⟩;rw[q06 nofun,q07 ⋯,q06 ⋯];refine h1 _ _ ?_;clear h1;have e0:=Ab z.x.t;have e0':Dt.deps (.int z.x.t.i::z.x.t.ps.map bB.d)+1=z.x.t.dep:=by rw[z.x.t.d_eq]at e0;exact e0
  symm;refine⟨g,dg,sg,st,as,D,m,(z.x.nm,I,G,z.x.c),(k:Int),rfl,gr.up o,a,.inl ⟨u,λj t' hj M v' H3 s3 a3=>?_,λh=>q0O h ⋯⟩⟩;have hj:k=j:=by omega
  subst hj;rw[Y]at M;cases M;have B:=zv.up (dH.of (o.trans s3)) _;have J:=a3;rw[z.x.t.d_eq]at B J;refine .inl ⟨_,⋯,.inr ⟨aU.rd _ J,aU.rd _ B⟩,_,rfl,?_⟩;rw[q06 nofun];refine h1 _ _ ?_;clear h1;have b:=o.trans s3;symm;refine dG (λt1=>?_) (λt1=>?_)
  ·refine⟨g,dg,sg,st,as,D,m,(z.x.nm,I,G,z.x.c),rfl,gr.up b,a,.inl ⟨u,λ_ l H4 hl hT s4=>?_,λh=>q0O h ⋯⟩⟩
   obtain⟨vs,hv,a1⟩:=hT;have a2:=a1.length;rw[Mb,e]at a2;have L:vs[k]?=some (vs[k]'⋯):=L_ ⋯;obtain⟨d,hd,Z⟩:=gz a1 L;rw[Md,Y]at hd;cases hd;have y:=zv.up (dH.of (b.trans s4)) _;rw[z.x.t.d_eq]at Z y;refine⟨l,rfl,_,aO.of hv,_,a_ L,.inl ⟨_,⋯,.inr ⟨aU.rd _ Z,aU.rd _ y⟩,_,rfl,?_⟩⟩;rw[q06 nofun];refine h1 _ _ ?_;ext;exact q k _ Y (b.trans s4)
  ·refine h1 _ _ ?_
   ext;exact q k _ Y b
section
variable {X:Cx}
def Iu:List V->Hp->VK->Prop:=λxs H Q=>∃b,xs=[.bl b]/\Q (.int (if b=true then 1 else 0)) H
theorem wY:gQ X (.type "int") Iu:=by
 intro pins s σ H xs us Q I r h;obtain⟨b,rfl,q⟩:=h;obtain⟨u,rfl,a⟩:=rP r;obtain rfl:u=Value.bool b:=a;exact PySem.call_int_bool ⟨.int _,H,I.tok _,⟨_,rfl⟩,q⟩
end
theorem ik{left:Int}(h6:left<=6):∀(szs:List ((Nat×Nat)×(Nat×Nat))),(∀z∈szs,B0 r c z)->(bt o1 o2 szs left).length<=szs.length*5
 | [],_=>My _
 |z::szs,h=>by
  have ih:=ik (o1:=o1) (o2:=o2) h6 szs λz' hz'=>h z' (Mr _ hz');have f1:=cq (h z q0B).a (h z q0B).b;have f2:=cq (h z q0B).d (h z q0B).e;unfold bt at ih ⊢;rw[List.flatMap_cons,Mx,Mm,Mb];unfold jR at ih ⊢;rw[Mb,q0H];omega
theorem xL{q:Nat×RV}{r c:Nat}{k:Int}(h4:q.1<4)(hq:1<=q.2.c)(hr:1<=r)(hc:1<=c)(hr6:r<=6)(hc6:c<=6)(hk:k<=7):(cE q r c k).length<=25:=by
 obtain⟨t,v⟩:=q;have:t=0\/t=1\/t=2\/t=3:=by simp at h4;omega
 simp only at hq;rcases this with rfl | rfl | rfl | rfl
 ·show(if r=1/\c=1/\k=v.c then[[]] else[]).length<=25
  split<;>simp
 ·refine MG (ik (by show k-v.c<=6;omega) _ λz a=>kJ hr a) ?_
  rw[jv];omega
 ·refine MG (ik (by show k-v.c<=6;omega) _ λz a=>kF hc a) ?_
  rw[iX];omega
 ·show([[_]]:List (List TR)).length<=25
  simp
theorem G5(gc:eC rs)(h14:rs.length<=15){p:TR}(hr:p.2.1<=6)(hc:p.2.2.1<=6)(hk:p.2.2.2<=7):CN rs p<2 ^ 64:=by
 have:=wd (B:=9) (L:=25) (kx:=7) gc (λq a r c k e b j g hk=>xL (gc q a).1 (gc q a).2.1 e j b g hk) (MG (Nat.mul_le_mul_right 25 h14) nofun) 17 p hr hc hk;exact MP (MG this (Nat.pow_le_pow_right nofun (by omega:9*p.2.2.2.toNat<=63))) nofun
theorem FC{α:Type}(F:α->V)(zs:List α)(lo hi:Option Int):∃zs':List α,lX (zs.map F) lo hi=zs'.map F/\(∀z∈zs',z∈zs)/\zs'.length<=zs.length:=by
 unfold lX;rw[<- List.map_drop,<- List.map_take];exact⟨_,rfl,λz a=>List.mem_of_mem_drop (q0G a),by rw[MN,MO];omega⟩
abbrev ur:Stmt:=gZ 77
inductive vW(K:W.Frag)(vs:List V)(H:Hp)(Q:VK)(_E:XK):Prop
 |mk (a:Addr) (ns:List Int) (_:vs=[.ref a]) (_:aO K H a (ns.map V.int)) (_:∀H',Q (.bl true) H')
theorem Hv:ay ["_law_script","_law_dear","_law_side","_law_limit","_law_drawn","_law_rules","_law_stock","_law_grammar_here","_law_told","_law_one","_law_k","_law_shape","_law_key_here","_law_ahead"] ["_law_script"] (ak ur):=by walk_at "c"
theorem Af(h:fA (ck p) (ck p')=true):p=p':=by
 obtain⟨n,r,c,k⟩:=p;obtain⟨e,a,b,g⟩:=p';have o:nB (V.str (tx n)) (V.str (tx e))=true/\nB (V.int (r:Int)) (V.int (a:Int))=true/\nB (V.int (c:Int)) (V.int (b:Int))=true/\nB (V.int k) (V.int g)=true:=by
  have h2:(([0,1,2,3]:List Nat).all (λj=>match([V.str (tx n),V.int (r:Int),V.int (c:Int),V.int k]:List V)[j]?,([V.str (tx e),V.int (a:Int),V.int (b:Int),V.int g]:List V)[j]? with | some x,some y=>nB x y | _,_=>true)&&true)=true:=h
  simpa using h2
 obtain⟨h1,h2,m,l⟩:=o;have u:n=e:=gM (jd h1);have e2:(r:Int)=a:=nw h2;have e3:(c:Int)=b:=nw m;have q:k=g:=nw l;subst u q;rw[show r=a by omega,show c=b by omega]
structure TI where
 a:Addr
 b:Addr
 c:V
 p:TR
 k:Nat
 t:bB
def TI.at(y:TI)(rs:Yaa)(H:Hp):Prop:=H y.a=some (.tup [.ref y.b,.int (y.k:Int),y.c])/\H y.b=some (.tup (ck y.p))/\aU H (cP rs y.t) y.c/\(RT rs y.p)[y.k]?=some y.t/\y.t.dep<=16
theorem TI.at.up{y:TI}(h:y.at rs H)(s:dH H H'):y.at rs H':=⟨s _ _ h.1,s _ _ h.2.1,h.2.2.1.up s _,h.2.2.2⟩
theorem AE{rs:Yaa}(hg:∀r∈rs,df r){p:TR}(ok:fm p){i j:Nat}{t u:bB}(hi:(RT rs p)[i]?=some t)(hj:(RT rs p)[j]?=some u) :
  (decide ((i:Int)<(j:Int))=true/\TL.LtK (cP rs t) (cP rs u)\/decide ((i:Int)<(j:Int))=false/\(TL.LtK (cP rs u) (cP rs t)\/∃ds,cP rs t=.tup ds/\cP rs u=.tup ds)) /\
  (decide ((i:Int)=(j:Int))=false/\(TL.LtK (cP rs t) (cP rs u)\/TL.LtK (cP rs u) (cP rs t))\/decide ((i:Int)=(j:Int))=true/\cP rs t=cP rs u):=by
 obtain⟨c,k⟩:=L'.mp hi;obtain⟨b,g⟩:=L'.mp hj;have a:=List.pairwise_iff_getElem.mp (HC hg ok);rcases Nat.lt_trichotomy i j with h | h | h
 ·have l:=a i j c b h
  rw[k,g]at l;exact⟨.inl ⟨by simp;omega,l⟩,.inl ⟨by simp;omega,.inl l⟩⟩
 ·subst h
  rw[hi]at hj;cases hj;obtain⟨r,e⟩:=m4 rs t;exact⟨.inr ⟨by simp,.inr ⟨_,e,e⟩⟩,.inr ⟨by simp,rfl⟩⟩
 ·have l:=a j i b c h
  rw[k,g]at l;exact⟨.inr ⟨by simp;omega,.inl l⟩,.inl ⟨by simp;omega,.inr l⟩⟩
theorem GZ{f:Addr}(F:cu K "law" "law" ur f fd)(nb:NB mg)(zDa:↑dO 1 "_law_cell" ["_law_script","_law_k"] (oJ K))(zWd:↑dO 2 "_law_cells" ["_law_script","_law_begin","_law_most"] (pZ K))(zXd:↑dO 1 "_law_signs" ["_law_cell_here","_law_most"] r8)(zYd:↑dO 2 "_law_names" ["_law_cell_here"] qS)
  (zZd:↑dO 4 "_law_grown" ["_law_cells_here","_law_drawn"] qY) (zWb:↑dO 7 "_law_grammar" ["_law_signs_here","_law_start","_law_rules"] (mX R CG)) (ztb:↑dO 35 "_law_key" ["_law_rules","_law_tree"] (rf 16)) (zFb:↑dO 109 "_law_numbered" ["_law_grammar_here","_law_one"] (lN R CG)):↑aT 110 f fd ["_law_script"] (vW K):=by
 have sc:=Hv;walk_at "f"
 ·obtain⟨a,ns,rfl,ha,q⟩:=h
  have hu:=hr.units;have f0:=hr.units210;refine⟨_,(WB.out (FU (Fd (Hr (Hm (zJ (vj (vj (vj vN)))) (Hm (zJ (vj (vj (vj vN)))) (Hm (zJ (vj (vj (vj vN)))) vN)))) (au (bg.m1 bj) (au (bg.m1 bu) (aJ zDa b⁻¹ rfl aW (aa (al 0) (bx ac))) ah) ah) (λ_ _=>rfl) (fg (n:=3) rfl (aM (q02 1 sc.nd) (aM (q02 2 sc.nd) (aM (q02 3 sc.nd) cz)))))
   (af (q01 4 sc.nd (aN (aa (aJ zXd b⁻¹ rfl aW (aa (aJ zDa b⁻¹ rfl aW (aa (al 0) (bx ac))) (bx ac))) (aa (aJ zYd b⁻¹ rfl aW (aa (aJ zDa b⁻¹ rfl aW (aa (al 0) (bx ac))) ac)) (aa (al 1) (aa (al 2) (aa (al 3) ac)))))))
   (af (qV (aJ zZd b⁻¹ rfl aW (aa (aJ zWd b⁻¹ rfl aW (aa (al 0) (bx (bx ac)))) (aa (al 4) ac))) (fg (n:=2) rfl (aM (q02 5 sc.nd) (aM (q02 6 sc.nd) cz))))
   (af (q01 7 sc.nd (aJ zWb b⁻¹ rfl aW (aa (az aw (al 4) ah (λ_ _=>rfl)) (aa (az aQ (az aw (al 4) ah (λ_ _=>rfl)) (au (bg.m1 bj) (aJ zDa b⁻¹ rfl aW (aa (al 0) (bx ac))) ah) (λ_ _=>rfl)) (aa (al 5) ac)))))
   (af (q01 8 sc.nd (bA ac))
   (af (bD PassesOwn.never rfl (cv (cX Gg (al 6) (dN (au (bg.m0 bO) (IH Hj ah) (au (bg.m1 fW) ah (c_ wY rfl nb.int Ef (aa (gn oS (al 3) ah (aI _)) ac))))) fq)) (q02 9 sc.nd)
   (af (q01 10 sc.nd (aJ zFb b⁻¹ rfl aW (aa (al 7) (aa (al 9) ac))))
   (af (bp (aE vx (al 10) fY (aI _))
   (ai (aF Ar))
   aK)
   (af (q01 11 sc.nd (aN (aa (az aw (al 9) ah (λ_ _=>rfl)) (aa (aC aV rfl nb.len aR (aa (az aw (al 9) ah (λ_ _=>rfl)) ac)) (aa (aC aP rfl nb.len aR (aa (az aQ (az aw (al 9) ah (λ_ _=>rfl)) ah (λ_ _=>rfl)) ac)) (aa (az aw (al 9) ah (λ_ _=>rfl)) ac))))))
   (af (q01 12 sc.nd (aJ ztb b⁻¹ rfl aW (aa (al 5) (aa (az aw (al 9) ah (λ_ _=>rfl)) ac))))
   (af (bD PassesOwn.never rfl (cv (al 8)) (q02 13 sc.nd)
   (af (bp (PW.pt (iu (aE (u6 hu) (az aw (al 13) ah (λ_ _=>rfl)) (al 11) (aI _)) (ig (aE oS (gn (bg.m0 rF) (al 10) (az aw (al 13) ah (λ_ _=>rfl)) (aI _)) (gn (FR f0) (al 12) (az aw (al 13) ah (λ_ _=>rfl)) (aI _)) (aI _)))))
   (ai (aF Ar))
   aK)
   (ai (bp (PW.pt (iu (aE (u6 hu) (az aw (al 13) ah (λ_ _=>rfl)) (al 11) (aI _)) (ig (aE oS (gn dn (al 10) (az aw (al 13) ah (λ_ _=>rfl)) (aI _)) (gn (F0 f0) (al 12) (az aw (al 13) ah (λ_ _=>rfl)) (aI _)) (aI _)))))
   (ai (aF Ar))
   aK))))
   (ai (br (q03 (al 8) (aa (aN (aa (al 11) (aa (al 10) (aa (al 12) ac)))) ac))))))))))
   (ai (aF Ar))))))))),?_⟩
  symm;refine⟨am nofun,λp0 f6=>⟨am nofun,λp1 b4=>⟨am nofun,λp2 a3=>⟨am nofun,λL D=>?_⟩⟩⟩⟩;have s1:=ae (o:=.tup [V.int 2,V.int 3,V.int 9]) f6;have e1:aA H p0 (.tup [V.int 2,V.int 3,V.int 9]) p0=some (.tup [V.int 2,V.int 3,V.int 9]):=ad;generalize aA H p0 (.tup [V.int 2,V.int 3,V.int 9])=H1 at s1 e1 b4 a3 D ⊢;have s2:=ae (o:=.tup [V.int 9,V.int 3,V.int 16]) b4;have e2:aA H1 p1 (.tup [V.int 9,V.int 3,V.int 16]) p1=some (.tup [V.int 9,V.int 3,V.int 16]):=ad;generalize aA H1 p1 (.tup [V.int 9,V.int 3,V.int 16])=H2 at s2 e2 a3 D ⊢;have s3:=ae (o:=.tup [V.int 1,V.int 6,V.int 8]) a3;have e3:aA H2 p2 (.tup [V.int 1,V.int 6,V.int 8]) p2=some (.tup [V.int 1,V.int 6,V.int 8]):=ad;generalize aA H2 p2 (.tup [V.int 1,V.int 6,V.int 8])=H3 at s3 e3 D ⊢;have s4:=ae (o:=.lst [V.ref p0,V.ref p1,V.ref p2]) D;have e4:aA H3 L (.lst [V.ref p0,V.ref p1,V.ref p2]) L=some (.lst [V.ref p0,V.ref p1,V.ref p2]):=ad;generalize aA H3 L (.lst [V.ref p0,V.ref p1,V.ref p2])=H4 at s4 e4 ⊢;have U:=((s1.trans s2).trans s3).trans s4;refine⟨a,ns,2,rfl,U.seq ha,⋯,λc2=>⟨_,rfl,_,aO.of e4,?_⟩⟩;obtain⟨pt,M,T,J,g3,f5,d1,d9,h7,i1,li16⟩:∃(pt:Addr) (M T J:Int),gj [V.ref p0,V.ref p1,V.ref p2] (c2/4%3)=some (V.ref pt)/\H4 pt=some (.tup [V.int M,V.int T,V.int J])/\1<=M/\M<=9/\T<=6/\1<=J/\J<=16:=by
   have:c2/4%3=0\/c2/4%3=1\/c2/4%3=2:=by omega
   rcases this with e | e | e<;>rw[e]
   ·exact⟨p0,2,3,9,rfl,s4 _ _ (s3 _ _ (s2 _ _ e1)),nofun,nofun,nofun,nofun,nofun⟩
   ·exact⟨p1,9,3,16,rfl,s4 _ _ (s3 _ _ e2),nofun,nofun,nofun,nofun,nofun⟩
   ·exact⟨p2,1,6,8,rfl,s4 _ _ e3,nofun,nofun,nofun,nofun,nofun⟩
  refine⟨_,g3,_,rfl,_,aS.of f5,rfl,_,_,rfl,_,_,rfl,_,_,rfl,rfl,h1 _ _ ?_⟩;clear h1 e1 e2 e3 e4 s1 s2 s3 s4 f5 g3 f6 b4 a3 D H1 H2 H3 p0 p1 p2 L pt;symm;refine⟨a,ns,0,rfl,U.seq ha,⋯,λc0=>⟨c0,rfl,λZ H5 b2 s5=>⟨a,ns,1,rfl,(U.trans s5).seq ha,⋯,λc1=>⟨c1,rfl,λlb p H6 k4 hb j7 b3 s6=>⟨am nofun,λtd f2=>h1 _ _ ?_⟩⟩⟩⟩⟩;clear h1;have s7:=ae (o:=.tup [V.str (tx Z),V.ref lb,V.int M,V.int T,V.int J]) f2;have a5:aA H6 td (.tup [V.str (tx Z),V.ref lb,V.int M,V.int T,V.int J]) td=some (.tup [V.str (tx Z),V.ref lb,V.int M,V.int T,V.int J]):=ad;have a4:=s7 _ _ hb;have a2:=((U.trans s5).trans s6).trans s7;generalize aA H6 td (.tup [V.str (tx Z),V.ref lb,V.int M,V.int T,V.int J])=H7 at a2 a5 a4 ⊢;clear s7 s6 s5 U hb k4 f2;symm;refine⟨a,ns,3,14,rfl,a2.seq ha,⋯,⋯,⋯,λlc cs H8 f9 g1 cs1 h4 s8=>⟨lc,td,lb,cs,p,Z,M,T,J,rfl,g1,h4,s8 _ _ a5,s8 _ _ a4,j7,b3,b2,d1,d9,h7,i1,λtp lr ls ts G zs H9 f1 g g5 i2 hz14 s9=>⟨tp,rfl,_,aS.of f1,rfl,_,_,rfl,_,_,rfl,rfl,h1 _ _ ?_⟩⟩⟩;clear h1;have h8:=(a2.trans s8).trans s9;have a7:=s9 _ _ (s8 _ _ a5);have k3:=s9 _ _ (s8 _ _ a4);clear s9 s8 a2 f1 f9 g1 a5 a4;have hzl:0<zs.length:=Nat.pos_of_ne_zero λe=>i2 (MQ.mp e);have e0:=g.rows;have f4:=g.ro;have C:∀r∈G,df r:=λr hr=>(g.ro r hr).good;have hsl:=jo b2;symm;refine⟨_,aS.of a7,_,rfl,_,aS.of a7,_,rfl,a,ns,2,rfl,h8.seq ha,⋯,λc4=>?_⟩;obtain⟨st,f3,l1⟩:∃st∈p,gj (aH p) (c4%4)=some (V.str (tx st)):=by
   obtain⟨n,hn,en⟩:∃n:Nat,n<4/\c4%4=(n:Int):=⟨(c4%4).toNat,⋯,⋯⟩;exact⟨p[n]'⋯,Mi _,by rw[en];exact a_ (bc ⋯)⟩
  have hn0:=kL (b3 _ f3);have mk:∀{rs'},(∀r∈rs',jw p Z r)->rs'.length<=15->ij Z st rs'=none:=λh d3=>Cu b2 f3 b3 ⋯ ⋯ h;have d5:∀{rs'},(∀r∈rs',jw p Z r)->rs'.length<=15->q8 st rs' 6:=fun{rs'} h d3=>⟨iU λr hr=>(h r hr).good,λq hq=>(h q hq).good.good.t0,λp a b c=>G5 (iU λr hr=>(h r hr).good) d3 a b c,nofun,⋯,by
   have:=mk h d3;unfold ij at this
   split at this
   ·cases this
   ·split at this
    ·cases this
    ·omega⟩
  have l0:∀{rs':Yaa} {nm:M8} {r c:Nat} {k:Int},(∃q∈rs',q.2.n=nm)->1<=r->r<=6->1<=c->c<=6->-8<=k->k<=16->pW st rs' 6 (nm,r,c,k):=fun{rs' nm r c k} ⟨q,hq,hn⟩ r1 r6 c1 c6 k0 k16=>⟨(qt _ _ _).mpr (.inr ⟨(tx q.2.n,(bw q.1 q.2).map tx),by unfold G3;exact List.mem_map_of_mem (f:=λr:Nat×RV=>(tx r.2.n,(bw r.1 r.2).map tx)) hq,.inl (by show tx nm=tx q.2.n;rw[hn])⟩),r1,r6,c1,c6,k0,k16⟩;refine⟨_,rfl,_,rfl,_,aO.of k3,_,l1,lr,Z,st,ts,G,rfl,e0,C,⋯,⋯,⋯,mk f4 g5,λg0 d0 a0 d6 G0 a9=>h1 _ _ ?_⟩;clear h1;have d5:=d5 f4 g5;symm;refine⟨am nofun,λlt f8=>h1 _ _ ?_⟩;clear h1;generalize z1:aA d6 lt _=H11;obtain⟨e6,h0⟩:=IZ f8 z1;have b1:∀z∈zs,z.at d6/\∃(rr cc:Nat),Sd G z.x.t (z.x.nm,rr,cc,z.x.c) z.x.p/\fb z.x.p rr cc/\z.x.t.dep<=16/\pW st G 6 (z.x.nm,rr,cc,z.x.c):=λz hz=>by
   have zg:=g.good z hz;obtain⟨rr,cc,B⟩:=zg.sd;have zlow:((z.x.t.cnt:Nat):Int)<=z.x.c:=(B.low C).2;have zcnt:=z.x.t.cnt1;have S:=z.x.t.dep_cnt;have hle:=zg.le;have Y:=B.pic C;obtain⟨nn,q0,ps,_,j4,j3,_⟩:=B.node C;exact⟨(g.at_ z hz).up a9,rr,cc,B,Y,⋯,l0 ⟨q0,Me j4,j3⟩ Y.r0 Y.r6 Y.c0 Y.c6 ⋯ ⋯⟩
  have g4:=e0.up a9;have h5:=a9 _ _ g.st;symm;refine⟨_,rfl,_,rfl,_,aO.of (e6 _ _ h5),λlp c3=>?_⟩;obtain⟨d7,ez,i3,hzl'⟩:=FC (λz:FI=>V.ref z.a) zs (some (-6+4*if(!decide (J=9))=true then 1 else 0)) none;rw[ez];generalize z2:aA H11 lp _=H12;obtain⟨e5,g7⟩:=IZ c3 z2;have i0:lp≠lt:=λe=>by rw[e,h0]at c3;cases c3
  have g8:=e5 _ _ h0;have h6:=e6.trans e5;have keep:∀{m},du lt H12 m->aD d6 m:=λs y u e=>s y u (aG e f8) (h6 y u e);refine⟨⟨_,aO.of g7⟩,?_⟩;refine cM (xs:=d7.map λz=>V.ref z.a) (λi σ m=>du lt H12 m/\(∃ys:List TI,m lt=some (.lst (ys.map λy=>V.ref y.a))/\(∀y∈ys,y.at G m)/\ys.length<=i)/\i<=d7.length/\∃y1 y2 y3 y4 y5,σ=[some (V.ref a),some (V.int M),some (V.int T),some (V.int J),some (V.ref td),some (V.ref lr),some (V.ref ls),some (V.ref g0),some (V.ref lt),y1,y2,y3,y4,y5]) ⟨λ_ _ _ e=>e,⟨[],g8,(λy hy=>nomatch hy),My _⟩,Mz _,_,_,_,_,_,rfl⟩ (λi σ m _ h=>aO.of (h.1 _ _ i0 g7)) ?_ ?_
  ·rintro i x σ m hx ⟨sE,⟨ys,i4,j1,j0⟩,hiz,y1,y2,y3,y4,y5,rfl⟩
   have f7:=(L'.mp hx).1;rw[Mb]at f7;rw[Md]at hx;obtain⟨z,hz,rfl⟩:=MC.mp hx;obtain⟨a1,rr,cc,B,Y,S,O⟩:=b1 z (i3 z (Me hz));have s':=keep sE;have a1:=a1.up s';have G':=G0.up s';have k7:=g4.up s';ac_nf;refine⟨g0,d0,Z,st,a0,G,6,z,(z.x.nm,rr,cc,z.x.c),rfl,G',d5,C,a1,B,rfl,rfl,O,λk H1 hk s1=>h2 _ _ ?_⟩;walk_at "oc";refine h2 _ _ ?_;clear h2;obtain⟨zt,zv,zl,zn⟩:=a1.up s1;obtain⟨k1,k2⟩:=dS Y.rc Y.r0;have hc6:=Y.c6;ac_nf;refine⟨_,aS.of zt,_,rfl,_,aS.of zt,_,rfl,_,rfl,_,aO.of zl,_,aS.of zt,_,rfl,_,rfl,_,aO.of zl,_,(show gj _ ((0:Nat):Int)=_ from a_ (bc k1)),_,rfl,by rw[av];exact am ⋯,_,aS.of zt,_,rfl,am nofun,λsh j2=>h2 _ _ ?_⟩;clear h2;rw[ar,Y.rc.1,av,k2];obtain⟨L,D⟩:∃L:TR,L=(z.x.nm,rr,cc,z.x.c):=⟨_,rfl⟩;rw[show[V.str (tx z.x.nm),V.int (rr:Int),V.int (cc:Int),V.int z.x.c]=ck L by rw[D];rfl];rw[<- D]at hk B O;generalize z3:aA H1 sh _=H2;obtain⟨s2,e2⟩:=IZ j2 z3;have k5:=(k7.up s1).up s2;ac_nf;refine⟨_,aS.of (s2 _ _ zt),_,rfl,lr,z.v,z.x.t,ts,G,L,z.x.p,rfl,k5,C,zv.up (dH.of s2) _,B,S,λkv H3 c9 s3=>h2 _ _ ?_⟩;clear h2;have a8:=(s1.trans s2).trans s3;have a6:∀y∈ys,y.at G H3:=λy hy=>(j1 y hy).up (dH.of a8);have l:=a8 _ _ i4;have d4:=s3 _ _ e2;have e7:=O.row nofun;have g2:(cP G z.x.t).dep<=60:=by rw[j5];omega
   ac_nf;refine⟨⟨_,aO.of l⟩,?_⟩;refine cM (xs:=ys.map λy=>V.ref y.a) (λj σ m=>m=H3/\∃y6,σ=[some (V.ref a),some (V.int M),some (V.int T),some (V.int J),some (V.ref td),some (V.ref lr),some (V.ref ls),some (V.ref g0),some (V.ref lt),some (V.ref z.a),some (V.int (k:Int)),some (V.ref sh),some kv,y6]) ⟨rfl,_,rfl⟩ (λj σ m _ h=>by rw[h.1];exact aO.of l) ?_ ?_
   ·rintro j x σ m hx ⟨rfl,y6,rfl⟩
    rw[Md]at hx;obtain⟨y,hy,rfl⟩:=MC.mp hx;obtain⟨ya,yb,yc,yk,yd⟩:=a6 y (Me hy);have e9:(cP G y.t).dep<=60:=by rw[j5];omega
    refine aj λN3 h3=>?_;have g6:N3 [some (V.ref a),some (V.int M),some (V.int T),some (V.int J),some (V.ref td),some (V.ref lr),some (V.ref ls),some (V.ref g0),some (V.ref lt),some (V.ref z.a),some (V.int (k:Int)),some (V.ref sh),some kv,some (V.ref y.a)] m:=by
     refine h3 _ _ ?_;clear h3;ext;refine⟨_,aS.of ya,_,fU _ _,_,rfl,_,aS.of yb,_,aS.of d4,rfl,rfl,?_⟩
     by_cases he:fA (ck y.p) (ck L)=true
     ·rw[q07 he]
      rw[Af he]at yk;obtain⟨d1,e1⟩:=m4 G z.x.t;obtain⟨d2,k8⟩:=m4 G y.t;refine⟨_,aS.of ya,_,rfl,rfl,_,aS.of ya,_,rfl,cP G z.x.t,cP G y.t,_,(AE C e7 hk yk).2,⟨_,e1⟩,⟨_,k8⟩,g2,e9,c9,yc,?_⟩;rw[q06 (λh=>h (by simp))]
      trivial
     ·rw[q06 he]
      trivial
    ext;refine⟨_,aS.of ya,_,fU _ _,_,rfl,_,aS.of yb,_,aS.of d4,rfl,rfl,?_⟩
    by_cases he:fA (ck y.p) (ck L)=true
    ·rw[q07 he]
     rw[Af he]at yk;refine⟨_,aS.of ya,_,rfl,_,rfl,_,aS.of ya,_,rfl,cP G z.x.t,cP G y.t,_,(AE C e7 hk yk).1,g2,e9,c9,yc,?_⟩;rw[q06 (λh=>h rfl)];exact g6
    ·rw[q06 he]
     exact g6
   ·rintro σ m ⟨rfl,y6,rfl⟩
    refine h2 _ _ ?_;clear h2;ext;have e8:m lt=some (.lst ((ys.map TI.a).map V.ref)):=by rw[Mp];exact l
    refine⟨.inl ⟨rfl,_,aO.of l⟩,am nofun,λpn I=>⟨_,ae I _ _ l,bf (by rw[Mb];omega),?_⟩⟩;have sP:du lt m (aA (aA m pn (.tup [V.ref sh,V.int (k:Int),kv])) lt (.lst (ys.map (λy=>V.ref y.a)++[V.ref pn]))):=(du.of (ae I)).trans du.put;have tP:=sP.tups e8;have h9:pn≠lt:=λe=>by rw[e,l]at I;cases I
    refine⟨(sE.trans (du.of a8)).trans sP,⟨ys++[⟨pn,sh,kv,L,k,z.x.t⟩],?_,λy hy=>?_,?_⟩,f7⟩
    ·rw[ad,Mn];rfl
    ·rcases Mo.mp hy with h | h
     ·exact(a6 y h).up tP
     ·rw[Mc.mp h]
      exact⟨by rw[ao h9];exact ad,tP _ _ d4,c9.up tP _,hk,S⟩
    ·rw[Mx];exact Nat.succ_le_succ j0
  ·rintro σ m ⟨sE,_,_,y1,y2,y3,y4,y5,rfl⟩
   refine h1 _ _ ?_;ext;exact q m
end
theorem bdc{n:Nat}{P:List Value->Prop}(h:∀a us,us.length=n->P (a::us)):∀us:List Value,us.length=n+1->P us:=by
 intro us e;cases us with|nil=>cases e|cons a us=>exact h a us (Nat.succ.inj e)
theorem bd0{P:List Value->Prop}(h:P []):∀us:List Value,us.length=0->P us:=by
 intro us e;cases us with|nil=>exact h|cons a us=>cases e
theorem bd1{P:List Value->Prop}(h:∀a,P [a]):∀us:List Value,us.length=1->P us:=bdc λa=>bd0 (P:=λus=>P (a::us)) (h a)
theorem bd2{P:List Value->Prop}(h:∀a b,P [a,b]):∀us:List Value,us.length=2->P us:=bdc λa=>bd1 (P:=λus=>P (a::us)) (h a)
theorem bd3{P:List Value->Prop}(h:∀a b c,P [a,b,c]):∀us:List Value,us.length=3->P us:=bdc λa=>bd2 (P:=λus=>P (a::us)) (h a)
theorem bd4{P:List Value->Prop}(h:∀a b c d,P [a,b,c,d]):∀us:List Value,us.length=4->P us:=bdc λa=>bd3 (P:=λus=>P (a::us)) (h a)
theorem bd5{P:List Value->Prop}(h:∀a b c d e,P [a,b,c,d,e]):∀us:List Value,us.length=5->P us:=bdc λa=>bd4 (P:=λus=>P (a::us)) (h a)
theorem bd6{P:List Value->Prop}(h:∀a b c d e f,P [a,b,c,d,e,f]):∀us:List Value,us.length=6->P us:=bdc λa=>bd5 (P:=λus=>P (a::us)) (h a)
def FK(K:W.Frag)(x:Str)(st:Stmt)(f:Addr):Prop:=W.nsIn K mainGlobals x=some (some (.ref f))/\∃oc od osl kV doc pm an cdv ct,K.lookup f=some ⟨oc,od,.func (W.fnOf x x (ba st) (aX st) (ak st) .none kV doc pm an cdv ct),osl⟩/\W.codeIn K cdv x=true/\W.keepIn K (.ref f)=true
theorem fk_mk{K:W.Frag}{st:Stmt}{f:Addr}{oc:Value}{od an:Nj}{osl:Array (Option Value)}{kV doc pm cdv ct:Value}(a:W.nsIn K mainGlobals x=some (some (.ref f)))(l:K.lookup f=some ⟨oc,od,.func (W.fnOf x x (ba st) (aX st) (ak st) .none kV doc pm an cdv ct),osl⟩)(c:W.codeIn K cdv x=true)(k:W.keepIn K (.ref f)=true):FK K x st f:=⟨a,oc,od,osl,kV,doc,pm,an,cdv,ct,l,c,k⟩
theorem FK.cal{K:W.Frag}{st:Stmt}{f:Addr}{mg:Nc}{CX:kT}{ps:Ng}{sp:Sp}(P:Nf)(w:Ni)(base:Heap)(q:FK K x st f)(X:K.In h)(G:h.Ns mainGlobals mg)
  (ok:∀fd,cu K x x st f fd->mg x=some (.ref f)->W.keepIn K (.ref f)=true->bR K fd ps []->aT P w K mg base CX k f fd ps sp)
  (hb:∀(kV doc pm:Value) (an:Nj) (cdv ct:Value) (us:Na),us.length=ps.length->bindArgs (W.fnOf x x (ba st) (aX st) (ak st) .none kV doc pm an cdv ct) ⟨us,[]⟩=pure (ps.zip us):=by first|exact λ_ _ _ _ _ _=>bd1 λ_=>rfl|exact λ_ _ _ _ _ _=>bd2 λ_ _=>rfl|exact λ_ _ _ _ _ _=>bd3 λ_ _ _=>rfl|exact λ_ _ _ _ _ _=>bd4 λ_ _ _ _=>rfl):dO P w K mg base CX k x ps sp:=by
 obtain⟨a,oc,od,osl,kV,doc,pm,an,cdv,ct,l,c,e⟩:=q;have F:=bL l c e;have b:=F.binds hb;exact⟨_,_,ok _ F (W.mg_of X G a) e b,W.mg_of X G a,e,b⟩
theorem all_mk{l:W.OpenLaw}{K:W.Frag}{mg:Nc}{fa:Addr}(X:K.In h)(G:h.Ns mainGlobals mg)(Ll:mg "law"=some (.ref fa))
  (a1:FK K "only_of" nY f1) (a2:FK K "is_name" nW f2) (a3:FK K "are_signs" kD f3) (a4:FK K "check_made_of" fV f4) (a5:FK K "numbers_by_name" e_ f5) (a6:FK K "beside" qX f6) (a7:FK K "above" uT f7) (a8:FK K "mirror" qK f8) (a9:FK K "column_from_below" dP f9) (Ko:FK K "quarter" oh f10) (J9:FK K "turned" qR f11) (La:FK K "check_form" jg f12) (K8:FK K "lay" Er f13) (Kq:FK K "laid" yu f14) (Lx:FK K "numbers_in" i7 f15) (K3:FK K "cost_of" ow f16) (JY:FK K "size_of" oq f17) (K7:FK K "fewest" rp f18) (LF:FK K "paired_rows" im f19) (Ke:FK K "row_of" rE f20) (K0:FK K "count_trees" io f21) (Ku:FK K "tree_at" oE f22) (Lo:FK K "number_of" ky f23) (KZ:FK K "trees_of" mf f24) (KA:FK K "_law_cell" rO f25) (Lm:FK K "_law_cells" nG f26) (Kl:FK K "_law_whole" oA f27) (LP:FK K "_law_signs" oH f28) (Lj:FK K "_law_any_names" iA f29) (J2:FK K "_law_names" nP f30) (Lb:FK K "_law_rule" qI f31) (LS:FK K "_law_grammar" kC f32) (KU:FK K "_law_turned" mx f33) (K9:FK K "_law_joined" mF f34) (Kv:FK K "_law_noted" oN f35) (JU:FK K "_law_put" uI f36) (KY:FK K "_law_any_rule" jl f37) (KH:FK K "_law_step" qG f38) (Lk:FK K "_law_grown" ou f39) (Le:FK K "_law_laid" qh f40) (J6:FK K "_law_cost" qq f41) (Kz:FK K "_law_key" uN f42) (LN:FK K "_law_numbered" ja f43) (Ks:FK K "law" ur f44)
  {zfa zia yaa yac zda zQa yaf yaK yam zza zea zsa zaa zla zba zoa zca zta zja zAa zpa zwa zka zya zma zBa zqa zga zva zFa zGa zra yab yaU yaR yaS yaM yaI yaO yaL yaT yag:Addr} {ydJ yc1 yb1 ydf yc5 yc9 ycZ ycI:Tok} {ydF ycb ycM ydS yb4 ydB ycg yc8 ydT yb5 zXe zYe zzd zAd zic zjc zNc zOc zBd zCd zgg zhg zZe zaf zPc zQc zpe zqe zXb zYb zJe zKe zkc zlc zbf zcf zRc zSc zae zbe zKf zLf zMf zNf zTc zUc yce yb0 ycF ycX ycr ycx ydQ ycd ydp yc4 ycw yde ycY ycK ydR yb2 yc3:Nj} {zgh zih ydb yct zEa yav ycT:ClassData} {zhh zjh ydx ybV zxg ydw ybY yc0 zdf zDd zmc zVc zEd zig zef zWc zre zZb zLe znc zff zXc zce zOf zPf zYc yci ydD ybZ ydL ydl ydM ydN yc6 ydP:Array (Option Value)} {ycq ycm yb6 ydU ybL ycp ydI ycV ycG ycH ybQ ycE zgf zhf zif zjf zLb zkf zFd zGd zHd zId znb zJd zoc zpc zqc zrc zWa zsc zZc zad zbd zcd zbb zdd zKd zLd zMd zNd zob zOd zjg zkg zlg zmg zde zng zlf zmf znf zof zMb zpf zed zfd zgd zhd zcb zid zse zte zue zve zyb zwe zac zbc zcc zdc zRa zec zMe zNe zOe zPe zGb zQe ztc zuc zvc zwc zXa zxc zqf zrf zsf ztf zNb zuf zjd zkd zld zmd zdb znd zee zfe zge zhe zub zie zQf zRf zSf zTf zyc zUf zVf zWf zXf zYf zzc zZf zod zpd zqd zrd zeb ztd ydd yco ycJ ycW ybG yb9 ycj ydj ycC yb7 ybK yca ydr ycy ycn ycU ybJ ydG ydi ycB ydz ycv ybs ydC ydK ybW ydo yda ybw ydA ycu ybU ydg ydE ybH ycs yb8 ydq ydh yb3 ybv ycD ycc yc2 yc7 ycN ybz ydO:Value}  (Fo:W.nsIn K mainGlobals "NoRule"=some (some (.ref zfa))) (DH:K.lookup zfa=some ⟨.type "type",ydF,.cls zgh,zhh⟩) (ww:W.excIn K zfa [.type "ValueError",.type "Exception",.type "BaseException",.type "object"] "ValueError.__new__"=true) (BF:W.findIn K (.ref zfa) "__getattribute__"=some p⁻¹) (Cj:W.findIn K (.ref zfa) "__getattr__"=some none) (Cm:W.mroIn K zfa (.type "BaseException")=some true) (A7:W.mroIn K zfa (.type "object")=some true) (A1:W.findIn K (.ref zfa) "__class__"=some (some f⁻¹)) (Bd:W.specialIn K f⁻¹ "__get__"=some (some (.builtin "getset_descriptor.__get__"))) (Bj:W.takesIn K f⁻¹=some true) (HP:W.nsIn K mainGlobals "NoFit"=some (some (.ref zia))) (FM:K.lookup zia=some ⟨.type "type",ycb,.cls zih,zjh⟩) (Ag:W.excIn K zia [.type "ValueError",.type "Exception",.type "BaseException",.type "object"] "ValueError.__new__"=true) (DS:W.findIn K (.ref zia) "__getattribute__"=some p⁻¹) (Dj:W.findIn K (.ref zia) "__getattr__"=some none) (Ed:W.mroIn K zia (.type "BaseException")=some true) (D7:W.mroIn K zia (.type "object")=some true) (C4:W.findIn K (.ref zia) "__class__"=some (some f⁻¹)) (Gh:W.nsIn K mainGlobals "NoName"=some (some (.ref yaa))) (DY:K.lookup yaa=some ⟨.type "type",ycM,.cls ydb,ydx⟩) (xK:W.excIn K yaa [.type "ValueError",.type "Exception",.type "BaseException",.type "object"] "ValueError.__new__"=true) (Bu:W.findIn K (.ref yaa) "__getattribute__"=some p⁻¹) (BD:W.findIn K (.ref yaa) "__getattr__"=some none) (BL:W.mroIn K yaa (.type "BaseException")=some true) (BY:W.mroIn K yaa (.type "object")=some true) (Cp:W.findIn K (.ref yaa) "__class__"=some (some f⁻¹)) (By:W.nsIn K mainGlobals "NoNumber"=some (some (.ref yac))) (yR:K.lookup yac=some ⟨.type "type",ydS,.cls yct,ybV⟩) (qH:W.excIn K yac [.type "ValueError",.type "Exception",.type "BaseException",.type "object"] "ValueError.__new__"=true) (wU:W.findIn K (.ref yac) "__getattribute__"=some p⁻¹) (xm:W.findIn K (.ref yac) "__getattr__"=some none) (wN:W.mroIn K yac (.type "BaseException")=some true) (w9:W.mroIn K yac (.type "object")=some true) (xy:W.findIn K (.ref yac) "__class__"=some (some f⁻¹)) (xT:W.nsIn K mainGlobals "NoGrammar"=some (some (.ref zda))) (o_:K.lookup zda=some ⟨.type "type",yb4,.cls zEa,zxg⟩) (vC:W.excOut K zda [.type "ValueError",.type "Exception",.type "BaseException",.type "object"] "ValueError.__new__"=true) (wb:W.findIn K (.ref zda) "__getattribute__"=some p⁻¹) (vM:W.findIn K (.ref zda) "__getattr__"=some none) (vO:W.mroIn K zda (.type "BaseException")=some true) (uS:W.mroIn K zda (.type "object")=some true) (vQ:W.findIn K (.ref zda) "__class__"=some (some f⁻¹)) (vA:W.findIn K (.ref zda) "__init__"=some (some (.ref zQa))) (vd:W.typeIn K (.ref zQa)=some (.type "function")) (uV:K.lookup zQa=some ⟨ycq,ydB,.func (W.fnOf "__init__" "NoGrammar.__init__" (ba kI) (aX kI) (ak kI) .none ycm yb6 ydU ycg ybL ycp),ydw⟩) (vK:W.codeIn K ybL "NoGrammar.__init__"=true) (wf:W.keepIn K (.ref zQa)=true) (uU:W.findIn K (.ref zda) "__setattr__"=some o⁻¹) (uR:W.strip zEa.mro=[.type "ValueError",.type "Exception",.type "BaseException",.type "object"]) (ni:zEa.hasDict=true) (vU:zEa.mro.contains (.type "object")=true) (uQ:zEa.mro.isEmpty=false) (vX:W.findIn K (.ref zda) "why"=some none) (FF:W.nsIn K mainGlobals "NoTree"=some (some (.ref yaf))) (wT:K.lookup yaf=some ⟨.type "type",yc8,.cls yav,ybY⟩) (B1:W.excOut K yaf [.type "ValueError",.type "Exception",.type "BaseException",.type "object"] "ValueError.__new__"=true) (BN:W.findIn K (.ref yaf) "__getattribute__"=some p⁻¹) (CA:W.findIn K (.ref yaf) "__getattr__"=some none) (Ci:W.mroIn K yaf (.type "BaseException")=some true) (Cg:W.mroIn K yaf (.type "object")=some true) (BO:W.findIn K (.ref yaf) "__class__"=some (some f⁻¹)) (B4:W.findIn K (.ref yaf) "__init__"=some (some (.ref yaK))) (B7:W.typeIn K (.ref yaK)=some (.type "function")) (Bf:K.lookup yaK=some ⟨ydI,ydT,.func (W.fnOf "__init__" "NoTree.__init__" (ba kN) (aX kN) (ak kN) .none ycV ycG ycH yb5 ybQ ycE),yc0⟩) (Ct:W.codeIn K ybQ "NoTree.__init__"=true) (B5:W.keepIn K (.ref yaK)=true) (A5:W.findIn K (.ref yaf) "__setattr__"=some o⁻¹) (Bz:W.strip yav.mro=[.type "ValueError",.type "Exception",.type "BaseException",.type "object"]) (tE:yav.hasDict=true) (B':yav.mro.contains (.type "object")=true) (Ca:yav.mro.isEmpty=false) (BG:W.findIn K (.ref yaf) "why"=some none) (AL:W.nsIn K mainGlobals "CAPITALS"=some (some (.str "ABCDEFGHIJKLMNOPQRSTUVWXYZ" ydJ))) (FJ:W.nsIn K mainGlobals "SMALLS"=some (some (.str "abcdefghijklmnopqrstuvwxyz" yc1))) (sy:W.nsIn K mainGlobals "LONGEST_NAME"=some (some (.int 4 yb1))) (Iz:W.nsIn K mainGlobals "Rule"=some (some (.ref yam))) (HJ:W.specialIn K (.ref yam) "__getattribute__"=some (some (.builtin "type.__getattribute__"))) (Hz:W.readsIn K yam (.type "type")=true) (pI:W.findCls K (.ref yam) (.type "type") "__init__"=some (.val (.ref zza))) (pB:K.lookup zza=some ⟨zgf,zXe,.func (W.fnOf "__init__" "Rule.__init__" (ba eN) (aX eN) (ak eN) .none zhf zif zjf zYe zLb zkf),zdf⟩) (pE:W.codeIn K zLb "Rule.__init__"=true) (JQ:W.keepIn K (.ref zza)=true) (CL:W.isFn K (.ref zza)=true) (AY:W.nsIn K mainGlobals "CellRule"=some (some (.ref zea))) (Kk:W.plainGet K zea Str.empty=true) (KW:W.hasDictIn K zea=true) (Lu:W.plainOver K zea=true) (Ki:W.findIn K (.ref zea) "__setattr__"=some o⁻¹) (LC:W.findIn K (.ref zea) "__class__"=some (some f⁻¹)) (Ld:W.mroIn K zea (.type "object")=some true) (LK:W.findIn K (.ref zea) "name"=some none) (LY:W.findIn K (.ref zea) "cost"=some none) (LA:W.findIn K (.ref zea) "part_names"=some none) (KD:W.findIn K (.ref zea) "sign"=some none) (zj:W.makesIn K zea=true) (zC:W.findIn K (.ref zea) "__init__"=some (some (.ref zsa))) (lA:K.lookup zsa=some ⟨zFd,zzd,.func (W.fnOf "__init__" "CellRule.__init__" (ba eR) (aX eR) (ak eR) .none zGd zHd zId zAd znb zJd),zDd⟩) (lE:W.codeIn K znb "CellRule.__init__"=true) (L1:W.keepIn K (.ref zsa)=true) (ly:W.isFn K (.ref zsa)=true) (zB:W.keepIn K (.ref zea)=true) (JW:W.kitOne K (.ref zea) (.ref yam)=some true) (JD:W.kitOne K (.ref zea) (.ref zea)=some true) (wy:W.nsIn K mainGlobals "BesideRule"=some (some (.ref zaa))) (LG:W.plainGet K zaa Str.empty=true) (Kd:W.hasDictIn K zaa=true) (Kh:W.plainOver K zaa=true) (K4:W.findIn K (.ref zaa) "__setattr__"=some o⁻¹) (LR:W.findIn K (.ref zaa) "__class__"=some (some f⁻¹)) (Kr:W.mroIn K zaa (.type "object")=some true) (KJ:W.findIn K (.ref zaa) "name"=some none) (L5:W.findIn K (.ref zaa) "cost"=some none) (Kn:W.findIn K (.ref zaa) "part_names"=some none) (K5:W.findIn K (.ref zaa) "one"=some none) (LZ:W.findIn K (.ref zaa) "other"=some none) (uC:W.makesIn K zaa=true) (vT:W.findIn K (.ref zaa) "__init__"=some (some (.ref zla))) (jG:K.lookup zla=some ⟨zoc,zic,.func (W.fnOf "__init__" "BesideRule.__init__" (ba cY) (aX cY) (ak cY) .none zpc zqc zrc zjc zWa zsc),zmc⟩) (jF:W.codeIn K zWa "BesideRule.__init__"=true) (Ln:W.keepIn K (.ref zla)=true) (jD:W.isFn K (.ref zla)=true) (vV:W.keepIn K (.ref zaa)=true) (Lr:W.kitOne K (.ref zaa) (.ref yam)=some true) (JT:W.kitOne K (.ref zaa) (.ref zaa)=some true) (zO:W.nsIn K mainGlobals "AboveRule"=some (some (.ref zba))) (K':W.plainGet K zba Str.empty=true) (LV:W.hasDictIn K zba=true) (KM:W.plainOver K zba=true) (Kj:W.findIn K (.ref zba) "__setattr__"=some o⁻¹) (KQ:W.findIn K (.ref zba) "__class__"=some (some f⁻¹)) (J1:W.mroIn K zba (.type "object")=some true) (KC:W.findIn K (.ref zba) "name"=some none) (J4:W.findIn K (.ref zba) "cost"=some none) (Lp:W.findIn K (.ref zba) "part_names"=some none) (LD:W.findIn K (.ref zba) "one"=some none) (J5:W.findIn K (.ref zba) "other"=some none) (wC:W.makesIn K zba=true) (xb:W.findIn K (.ref zba) "__init__"=some (some (.ref zoa))) (jN:K.lookup zoa=some ⟨zZc,zNc,.func (W.fnOf "__init__" "AboveRule.__init__" (ba dJ) (aX dJ) (ak dJ) .none zad zbd zcd zOc zbb zdd),zVc⟩) (kh:W.codeIn K zbb "AboveRule.__init__"=true) (Kx:W.keepIn K (.ref zoa)=true) (j7:W.isFn K (.ref zoa)=true) (xA:W.keepIn K (.ref zba)=true) (Ly:W.kitOne K (.ref zba) (.ref yam)=some true) (JE:W.kitOne K (.ref zba) (.ref zba)=some true) (A3:W.nsIn K mainGlobals "TurnRule"=some (some (.ref zca))) (KL:W.plainGet K zca Str.empty=true) (L6:W.hasDictIn K zca=true) (K1:W.plainOver K zca=true) (Kc:W.findIn K (.ref zca) "__setattr__"=some o⁻¹) (Kw:W.findIn K (.ref zca) "__class__"=some (some f⁻¹)) (Li:W.mroIn K zca (.type "object")=some true) (K6:W.findIn K (.ref zca) "name"=some none) (K_:W.findIn K (.ref zca) "cost"=some none) (KN:W.findIn K (.ref zca) "part_names"=some none) (LM:W.findIn K (.ref zca) "part"=some none) (Lf:W.findIn K (.ref zca) "turning"=some none) (yN:W.makesIn K zca=true) (yx:W.findIn K (.ref zca) "__init__"=some (some (.ref zta))) (lm:K.lookup zta=some ⟨zKd,zBd,.func (W.fnOf "__init__" "TurnRule.__init__" (ba eD) (aX eD) (ak eD) .none zLd zMd zNd zCd zob zOd),zEd⟩) (lC:W.codeIn K zob "TurnRule.__init__"=true) (Kb:W.keepIn K (.ref zta)=true) (lx:W.isFn K (.ref zta)=true) (yU:W.keepIn K (.ref zca)=true) (Kf:W.kitOne K (.ref zca) (.ref yam)=some true) (JG:W.kitOne K (.ref zca) (.ref zca)=some true) (xF:W.nsIn K mainGlobals "MOST_SIGNS"=some (some (.int 4 ydf))) (wu:W.nsIn K mainGlobals "MOST_RULES"=some (some (.int 24 yc5))) (xJ:W.nsIn K mainGlobals "MOST_NAMES"=some (some (.int 8 yc9))) (Ir:W.nsIn K mainGlobals "MOST"=some (some (.int 6 ycZ))) (Lc:W.kitOne K (.ref zea) (.ref zaa)=some false) (Lq:W.kitOne K (.ref zea) (.ref zba)=some false) (LL:W.kitOne K (.ref zea) (.ref zca)=some false) (L3:W.kitOne K (.ref zaa) (.ref zea)=some false) (Km:W.kitOne K (.ref zaa) (.ref zba)=some false) (KR:W.kitOne K (.ref zaa) (.ref zca)=some false) (KF:W.kitOne K (.ref zba) (.ref zea)=some false) (L4:W.kitOne K (.ref zba) (.ref zaa)=some false) (J':W.kitOne K (.ref zba) (.ref zca)=some false) (KO:W.kitOne K (.ref zca) (.ref zea)=some false) (Ls:W.kitOne K (.ref zca) (.ref zaa)=some false) (LX:W.kitOne K (.ref zca) (.ref zba)=some false) (oK:W.findIn K (.ref zea) "parts"=some (some (.ref zja))) (uX:K.lookup zja=some ⟨zjg,zgg,.func (W.fnOf "parts" "Rule.parts" (ba dE) (aX dE) (ak dE) .none zkg zlg zmg zhg zde zng),zig⟩) (vB:W.codeIn K zde "Rule.parts"=true) (Ib:W.keepIn K (.ref zja)=true) (gx:W.isFn K (.ref zja)=true) (py:W.findIn K (.ref zea) "made"=some (some (.ref zAa))) (pw:K.lookup zAa=some ⟨zlf,zZe,.func (W.fnOf "made" "CellRule.made" (ba eM) (aX eM) (ak eM) .none zmf znf zof zaf zMb zpf),zef⟩) (pz:W.codeIn K zMb "CellRule.made"=true) (JK:W.keepIn K (.ref zAa)=true) (pF:W.isFn K (.ref zAa)=true) (jV:W.findIn K (.ref zea) "part_rows"=some (some (.ref zpa))) (j3:K.lookup zpa=some ⟨zed,zPc,.func (W.fnOf "part_rows" "CellRule.part_rows" (ba eV) (aX eV) (ak eV) .none zfd zgd zhd zQc zcb zid),zWc⟩) (jZ:W.codeIn K zcb "CellRule.part_rows"=true) (Jy:W.keepIn K (.ref zpa)=true) (jT:W.isFn K (.ref zpa)=true) (l9:W.findIn K (.ref zaa) "parts"=some (some (.ref zja))) (ny:W.findIn K (.ref zaa) "made"=some (some (.ref zwa))) (nr:K.lookup zwa=some ⟨zse,zpe,.func (W.fnOf "made" "BesideRule.made" (ba cZ) (aX cZ) (ak cZ) .none zte zue zve zqe zyb zwe),zre⟩) (mL:W.codeIn K zyb "BesideRule.made"=true) (JB:W.keepIn K (.ref zwa)=true) (mQ:W.isFn K (.ref zwa)=true) (i':W.findIn K (.ref zaa) "part_rows"=some (some (.ref zka))) (jh:K.lookup zka=some ⟨zac,zXb,.func (W.fnOf "part_rows" "BesideRule.part_rows" (ba c5) (aX c5) (ak c5) .none zbc zcc zdc zYb zRa zec),zZb⟩) (iW:W.codeIn K zRa "BesideRule.part_rows"=true) (JS:W.keepIn K (.ref zka)=true) (i4:W.isFn K (.ref zka)=true) (nc:W.findIn K (.ref zba) "parts"=some (some (.ref zja))) (nN:W.findIn K (.ref zba) "made"=some (some (.ref zya))) (nZ:K.lookup zya=some ⟨zMe,zJe,.func (W.fnOf "made" "AboveRule.made" (ba dM) (aX dM) (ak dM) .none zNe zOe zPe zKe zGb zQe),zLe⟩) (ol:W.codeIn K zGb "AboveRule.made"=true) (JJ:W.keepIn K (.ref zya)=true) (nJ:W.isFn K (.ref zya)=true) (jC:W.findIn K (.ref zba) "part_rows"=some (some (.ref zma))) (jH:K.lookup zma=some ⟨ztc,zkc,.func (W.fnOf "part_rows" "AboveRule.part_rows" (ba dI) (aX dI) (ak dI) .none zuc zvc zwc zlc zXa zxc),znc⟩) (jI:W.codeIn K zXa "AboveRule.part_rows"=true) (Jx:W.keepIn K (.ref zma)=true) (jB:W.isFn K (.ref zma)=true) (nR:W.findIn K (.ref zca) "parts"=some (some (.ref zja))) (ph:W.findIn K (.ref zca) "made"=some (some (.ref zBa))) (pj:K.lookup zBa=some ⟨zqf,zbf,.func (W.fnOf "made" "TurnRule.made" (ba eF) (aX eF) (ak eF) .none zrf zsf ztf zcf zNb zuf),zff⟩) (pJ:W.codeIn K zNb "TurnRule.made"=true) (JN:W.keepIn K (.ref zBa)=true) (pL:W.isFn K (.ref zBa)=true) (jS:W.findIn K (.ref zca) "part_rows"=some (some (.ref zqa))) (ka:K.lookup zqa=some ⟨zjd,zRc,.func (W.fnOf "part_rows" "TurnRule.part_rows" (ba eS) (aX eS) (ak eS) .none zkd zld zmd zSc zdb znd),zXc⟩) (j':W.codeIn K zdb "TurnRule.part_rows"=true) (JM:W.keepIn K (.ref zqa)=true) (jX:W.isFn K (.ref zqa)=true) (En:W.nsIn K mainGlobals "Grammar"=some (some (.ref zga))) (LU:W.plainGet K zga Str.empty=true) (J7:W.hasDictIn K zga=true) (Ka:W.plainOver K zga=true) (JV:W.findIn K (.ref zga) "__setattr__"=some o⁻¹) (KK:W.findIn K (.ref zga) "__class__"=some (some f⁻¹)) (Lz:W.mroIn K zga (.type "object")=some true) (J3:W.findIn K (.ref zga) "signs"=some none) (LW:W.findIn K (.ref zga) "start"=some none) (Kg:W.findIn K (.ref zga) "kept"=some none) (J8:W.findIn K (.ref zga) "numbers"=some none) (AQ:W.makesIn K zga=true) (AX:W.findIn K (.ref zga) "__init__"=some (some (.ref zva))) (mE:K.lookup zva=some ⟨zee,zae,.func (W.fnOf "__init__" "Grammar.__init__" (ba eQ) (aX eQ) (ak eQ) .none zfe zge zhe zbe zub zie),zce⟩) (lZ:W.codeIn K zub "Grammar.__init__"=true) (KG:W.keepIn K (.ref zva)=true) (mw:W.isFn K (.ref zva)=true) (B3:W.keepIn K (.ref zga)=true) (qU:W.findIn K (.ref zga) "rule"=some (some (.ref zFa))) (rA:K.lookup zFa=some ⟨zQf,zKf,.func (W.fnOf "rule" "Grammar.rule" (ba eO) (aX eO) (ak eO) .none zRf zSf zTf zLf zyc zUf),zOf⟩) (rL:W.codeIn K zyc "Grammar.rule"=true) (JP:W.keepIn K (.ref zFa)=true) (qC:W.isFn K (.ref zFa)=true) (r9:W.findIn K (.ref zga) "many"=some (some (.ref zGa))) (rh:K.lookup zGa=some ⟨zVf,zMf,.func (W.fnOf "many" "Grammar.many" (ba eJ) (aX eJ) (ak eJ) .none zWf zXf zYf zNf zzc zZf),zPf⟩) (qa:W.codeIn K zzc "Grammar.many"=true) (JA:W.keepIn K (.ref zGa)=true) (qv:W.isFn K (.ref zGa)=true) (kA:W.findIn K (.ref zga) "numbers_of"=some (some (.ref zra))) (kq:K.lookup zra=some ⟨zod,zTc,.func (W.fnOf "numbers_of" "Grammar.numbers_of" (ba bY) (aX bY) (ak bY) .none zpd zqd zrd zUc zeb ztd),zYc⟩) (km:W.codeIn K zeb "Grammar.numbers_of"=true) (JO:W.keepIn K (.ref zra)=true) (ki:W.isFn K (.ref zra)=true) (Cr:W.nsIn K mainGlobals "TreeRows"=some (some (.ref yab))) (yJ:W.plainGet K yab Str.empty=true) (yO:W.hasDictIn K yab=true) (yX:W.plainOver K yab=true) (yw:W.findIn K (.ref yab) "__setattr__"=some o⁻¹) (yV:W.findIn K (.ref yab) "__class__"=some (some f⁻¹)) (zf:W.mroIn K yab (.type "object")=some true) (mh:W.findIn K (.ref yab) "grammar"=some none) (n_:W.findIn K (.ref yab) "steps"=some none) (mT:W.findIn K (.ref yab) "totals"=some none) (yy:W.makesIn K yab=true) (yh:W.findIn K (.ref yab) "__init__"=some (some (.ref yaU))) (ll:K.lookup yaU=some ⟨ydd,yce,.func (W.fnOf "__init__" "TreeRows.__init__" (ba gB) (aX gB) (ak gB) .none yco ycJ ycW yb0 ybG yb9),yci⟩) (lF:W.codeIn K ybG "TreeRows.__init__"=true) (k_:W.keepIn K (.ref yaU)=true) (lz:W.isFn K (.ref yaU)=true) (x_:W.keepIn K (.ref yab)=true) (l7:W.findIn K (.ref yab) "many_in"=some (some (.ref yaR))) (mi:K.lookup yaR=some ⟨ycj,ycF,.func (W.fnOf "many_in" "TreeRows.many_in" (ba b9) (aX b9) (ak b9) .none ydj ycC yb7 ycX ybK yca),ydD⟩) (l_:W.codeIn K ybK "TreeRows.many_in"=true) (gL:W.keepIn K (.ref yaR)=true) (my:W.isFn K (.ref yaR)=true) (lg:W.findIn K (.ref yab) "steps_of"=some (some (.ref yaS))) (k8:K.lookup yaS=some ⟨ydr,ycr,.func (W.fnOf "steps_of" "TreeRows.steps_of" (ba b_) (aX b_) (ak b_) .none ycy ycn ycU ycx ybJ ydG),ybZ⟩) (lG:W.codeIn K ybJ "TreeRows.steps_of"=true) (gl:W.keepIn K (.ref yaS)=true) (kX:W.isFn K (.ref yaS)=true) (kW:W.findIn K (.ref yab) "reckoned"=some (some (.ref yaM))) (kZ:K.lookup yaM=some ⟨ydi,ydQ,.func (W.fnOf "reckoned" "TreeRows.reckoned" (ba ce) (aX ce) (ak ce) .none ycB ydz ycv ycd ybs ydC),ydL⟩) (lD:W.codeIn K ybs "TreeRows.reckoned"=true) (gb:W.keepIn K (.ref yaM)=true) (lw:W.isFn K (.ref yaM)=true) (iE:W.findIn K (.ref yab) "many_together"=some (some (.ref yaI))) (iG:K.lookup yaI=some ⟨ydK,ydp,.func (W.fnOf "many_together" "TreeRows.many_together" (ba bv) (aX bv) (ak bv) .none ybW ydo yda yc4 ybw ydA),ydl⟩) (iw:W.codeIn K ybw "TreeRows.many_together"=true) (dR:W.keepIn K (.ref yaI)=true) (iC:W.isFn K (.ref yaI)=true) (l6:W.findIn K (.ref yab) "tree_in"=some (some (.ref yaO))) (mB:K.lookup yaO=some ⟨ycu,ycw,.func (W.fnOf "tree_in" "TreeRows.tree_in" (ba cA) (aX cA) (ak cA) .none ybU ydg ydE yde ybH ycs),ydM⟩) (ml:W.codeIn K ybH "TreeRows.tree_in"=true) (gK:W.keepIn K (.ref yaO)=true) (mv:W.isFn K (.ref yaO)=true) (lH:W.findIn K (.ref yab) "trees_in"=some (some (.ref yaL))) (lh:K.lookup yaL=some ⟨yb8,ycY,.func (W.fnOf "trees_in" "TreeRows.trees_in" (ba cC) (aX cC) (ak cC) .none ydq ydh yb3 ycK ybv ycD),ydN⟩) (k7:W.codeIn K ybv "TreeRows.trees_in"=true) (f_:W.keepIn K (.ref yaL)=true) (lB:W.isFn K (.ref yaL)=true) (kt:W.findIn K (.ref yab) "number_in"=some (some (.ref yaT))) (ku:K.lookup yaT=some ⟨ycc,ydR,.func (W.fnOf "number_in" "TreeRows.number_in" (ba bT) (aX bT) (ak bT) .none yc2 yc7 ycN yb2 ybz ydO),yc6⟩) (jO:W.codeIn K ybz "TreeRows.number_in"=true) (fS:W.keepIn K (.ref yaT)=true) (kj:W.isFn K (.ref yaT)=true) (D8:W.nsIn K mainGlobals "TooMany"=some (some (.ref yag))) (AZ:K.lookup yag=some ⟨.type "type",yc3,.cls ycT,ydP⟩) (t_:W.excIn K yag [.type "ValueError",.type "Exception",.type "BaseException",.type "object"] "ValueError.__new__"=true) (zL:W.findIn K (.ref yag) "__getattribute__"=some p⁻¹) (yL:W.findIn K (.ref yag) "__getattr__"=some none) (x9:W.mroIn K yag (.type "BaseException")=some true) (yG:W.mroIn K yag (.type "object")=some true) (yI:W.findIn K (.ref yag) "__class__"=some (some f⁻¹)) (xj:W.nsIn K mainGlobals "MOST_TREES"=some (some (.int 300 ycI)))
  (z0:W.nsIn K mainGlobals "len"=some none) (z1:W.nsIn K mainGlobals "range"=some none) (z2:W.nsIn K mainGlobals "list"=some none) (z3:W.nsIn K mainGlobals "tuple"=some none) (z4:W.nsIn K mainGlobals "isinstance"=some none) (z5:W.nsIn K mainGlobals "int"=some none) (z6:W.nsIn K mainGlobals "bool"=some none) (z7:W.nsIn K mainGlobals "str"=some none) (z8:W.nsIn K mainGlobals "reversed"=some none) (z9:W.nsIn K mainGlobals "all"=some none) (Kt:W.nsIn K mainGlobals "enumerate"=some none) (JZ:W.nsIn K mainGlobals "zip"=some none) (K2:W.nsIn K mainGlobals "sorted"=some none) (LB:W.nsIn K mainGlobals "set"=some none) (KI:W.nsIn K mainGlobals "dict"=some none) (Jr:W.nsIn K mainGlobals "min"=some none) (KP:W.nsIn K mainGlobals "max"=some none) (LO:W.nsIn K mainGlobals "sum"=some none) (LJ:W.nsIn K mainGlobals "ValueError"=some none) :
  ∃fd:FuncData,(∀(s:M9) (v:Value),BindsTo s fd ⟨[v],[]⟩ [("_law_script",v)])/\∀base:Heap,K.In base->base.Ns mainGlobals mg->aT l.prog w K mg base bF 110 fa fd ["_law_script"] (vW K):=by
 obtain⟨an,oc,od,osl,kV,doc,pm,ann,cdv,ct,hl,hc,hk⟩:=Ks;have e:=Ll.symm.trans (W.mg_of X G an);cases e;have FL:=bL hl hc hk;have nb:NB mg:=⟨W.mg_none_of X G z0,W.mg_none_of X G z1,W.mg_none_of X G z2,W.mg_none_of X G z3,W.mg_none_of X G z4,W.mg_none_of X G z5,W.mg_none_of X G z6,W.mg_none_of X G z7,W.mg_none_of X G z8,W.mg_none_of X G z9,W.mg_none_of X G Kt,W.mg_none_of X G JZ,W.mg_none_of X G K2,W.mg_none_of X G LB,W.mg_none_of X G KI,W.mg_none_of X G Jr,W.mg_none_of X G KP,W.mg_none_of X G LO,W.mg_none_of X G LJ⟩;refine⟨W.fnOf "law" "law" (ba ur) (aX ur) (ak ur) .none kV doc pm ann cdv ct,λs v=>.of_eq rfl,λbase _ _=>?_⟩;have zCa:=W.mg_of X G Fo;have xc_NoRule:vR K zfa [.type "ValueError",.type "Exception",.type "BaseException",.type "object"] "ValueError.__new__":=⟨ww⟩;have zxa:XR K zfa:=⟨_,_,_,_,_,_,_,_,⟨ww⟩,PySem.F.excBase_ValueError,rfl,PySem.F.excBase_ValueError⟩;have xt_NoRule:W.XTy K zfa:=⟨BF,Cj,Cm,A7,A1,Bd,Bj,_,_,_,DH⟩;have zCb:=W.mg_of X G HP;have xc_NoFit:vR K zia [.type "ValueError",.type "Exception",.type "BaseException",.type "object"] "ValueError.__new__":=⟨Ag⟩;have zrb:XR K zia:=⟨_,_,_,_,_,_,_,_,⟨Ag⟩,PySem.F.excBase_ValueError,rfl,PySem.F.excBase_ValueError⟩;have xt_NoFit:W.XTy K zia:=⟨DS,Dj,Ed,D7,C4,Bd,Bj,_,_,_,FM⟩;have ya8:=W.mg_of X G Gh;have xc_NoName:vR K yaa [.type "ValueError",.type "Exception",.type "BaseException",.type "object"] "ValueError.__new__":=⟨xK⟩;have ybj:XR K yaa:=⟨_,_,_,_,_,_,_,_,⟨xK⟩,PySem.F.excBase_ValueError,rfl,PySem.F.excBase_ValueError⟩;have xt_NoName:W.XTy K yaa:=⟨Bu,BD,BL,BY,Cp,Bd,Bj,_,_,_,DY⟩;have yaE:=W.mg_of X G By;have xc_NoNumber:vR K yac [.type "ValueError",.type "Exception",.type "BaseException",.type "object"] "ValueError.__new__":=⟨qH⟩;have yaD:XR K yac:=⟨_,_,_,_,_,_,_,_,⟨qH⟩,PySem.F.excBase_ValueError,rfl,PySem.F.excBase_ValueError⟩;have xt_NoNumber:W.XTy K yac:=⟨wU,xm,wN,w9,xy,Bd,Bj,_,_,_,yR⟩;have zua:=W.mg_of X G xT;have zug:BT K zda [.type "ValueError",.type "Exception",.type "BaseException",.type "object"] "ValueError.__new__":=⟨vC⟩;have xt_NoGrammar:W.XTy K zda:=⟨wb,vM,vO,uS,vQ,Bd,Bj,_,_,_,o_⟩;have ybR:W.clsIn K zda=some zEa:=by unfold W.clsIn;rw[o_]
 have xh_NoGrammar:W.hasDictIn K zda=true:=by unfold W.hasDictIn;rw[ybR];exact ni
 have ybB:=bL (st:=kI) uV vK wf;have ycf:W.XSt K zda "why":=⟨uU,⟨zEa,ybR,uR,ni,vU,uQ⟩,vX⟩;have ydk:=ybB.binds (ps:=["self","why"]) λ_ _ _ _ _ _=>bd2 λ_ _=>rfl
 have zna:XI l.prog w K mg base 1 zda "why":=⟨_,_,_,_,_,_,_,_,zQa,_,_,zug,PySem.F.excBase_ValueError,rfl,PySem.F.excBase_ValueError,vA,vd,Dp ybB ycf,ydk⟩;have yaB:=W.mg_of X G FF;have ydn:BT K yaf [.type "ValueError",.type "Exception",.type "BaseException",.type "object"] "ValueError.__new__":=⟨B1⟩;have xt_NoTree:W.XTy K yaf:=⟨BN,CA,Ci,Cg,BO,Bd,Bj,_,_,_,wT⟩;have ybM:W.clsIn K yaf=some yav:=by unfold W.clsIn;rw[wT]
 have xh_NoTree:W.hasDictIn K yaf=true:=by unfold W.hasDictIn;rw[ybM];exact tE
 have yby:=bL (st:=kN) Bf Ct B5;have ych:W.XSt K yaf "why":=⟨A5,⟨yav,ybM,Bz,tE,B',Ca⟩,BG⟩;have ydc:=yby.binds (ps:=["self","why"]) λ_ _ _ _ _ _=>bd2 λ_ _=>rfl
 have yaF:XI l.prog w K mg base 1 yaf "why":=⟨_,_,_,_,_,_,_,_,yaK,_,_,ydn,PySem.F.excBase_ValueError,rfl,PySem.F.excBase_ValueError,B4,B7,Em yby ych,ydc⟩;have yaZ:=W.mg_of X G AL;have yaz:=W.mg_of X G FJ;have ya3:=W.mg_of X G sy;have ybT:=W.mg_of X G Iz;have zRb:=bL (st:=eN) pB pE JQ;have zFf:=zRb.binds (ps:=["self","name","cost","part_names"]) λ_ _ _ _ _ _=>bd4 λ_ _ _ _=>rfl
 have ydm:ED K yam "__init__" zza:=⟨HJ,Hz,pI,JQ⟩;have zBb:=W.mg_of X G AY;have zLa:fQ K zea:=⟨⟨Kk,KW,Lu,Ki⟩,LC,Bd,Bj,Ld⟩;have zpb:=bL (st:=eR) lA lE L1;have zRd:=zpb.binds (ps:=["self","name","cost","sign"]) λ_ _ _ _ _ _=>bd4 λ_ _ _ _=>rfl
 have zFg:Mk K zea zsa:=⟨zj,zC,ly,zB⟩;have zvg:=W.mg_of X G wy;have zKa:fQ K zaa:=⟨⟨LG,Kd,Kh,K4⟩,LR,Bd,Bj,Kr⟩;have zZa:=bL (st:=cY) jG jF Ln;have zFc:=zZa.binds (ps:=["self","name","cost","one","other"]) λ_ _ _ _ _ _=>bd5 λ_ _ _ _ _=>rfl
 have zfg:Mk K zaa zla:=⟨uC,vT,jD,vV⟩;have zGg:=W.mg_of X G zO;have zOa:fQ K zba:=⟨⟨K',LV,KM,Kj⟩,KQ,Bd,Bj,J1⟩;have zib:=bL (st:=dJ) jN kh Kx;have zvd:=zib.binds (ps:=["self","name","cost","one","other"]) λ_ _ _ _ _ _=>bd5 λ_ _ _ _ _=>rfl
 have zwg:Mk K zba zoa:=⟨wC,xb,j7,xA⟩;have zVg:=W.mg_of X G A3;have zMa:fQ K zca:=⟨⟨KL,L6,K1,Kc⟩,Kw,Bd,Bj,Li⟩;have zqb:=bL (st:=eD) lm lC Kb;have zSd:=zqb.binds (ps:=["self","name","cost","part","turning"]) λ_ _ _ _ _ _=>bd5 λ_ _ _ _ _=>rfl
 have zHg:Mk K zca zta:=⟨yN,yx,lx,yU⟩
 let R:RC:=⟨yam,zea,zaa,zba,zca⟩
 have rk:pi K R:=⟨zLa,zKa,zOa,zMa,⟨LK,LY,LA,KD⟩,⟨KJ,L5,Kn,K5,LZ⟩,⟨KC,J4,Lp,LD,J5⟩,⟨K6,K_,KN,LM,Lf⟩,JW,Lr,Ly,Kf,JD,JT,JE,JG⟩;have ybq:=W.mg_of X G xF;have ybp:=W.mg_of X G wu;have ybg:=W.mg_of X G xJ;have yah:=W.mg_of X G Ir;have rk4:GH K R:=⟨λi j hi hj=>by rcases kE hi with rfl | rfl | rfl | rfl<;>rcases kE hj with rfl | rfl | rfl | rfl;exact JD;exact Lc;exact Lq;exact LL;exact L3;exact JT;exact Km;exact KR;exact KF;exact L4;exact JE;exact J';exact KO;exact Ls;exact LX;exact JG⟩;have zPa:=bL (st:=dE) uX vB Ib;have zjb:=zPa.binds (ps:=["self"]) λ_ _ _ _ _ _=>bd1 λ_=>rfl
 have zBe:cT K zea "parts" zja:=⟨oK,gx,Ib⟩;have zSb:=bL (st:=eM) pw pz JK;have zGf:=zSb.binds (ps:=["self","pictures"]) λ_ _ _ _ _ _=>bd2 λ_ _=>rfl
 have zUe:cT K zea "made" zAa:=⟨py,pF,JK⟩;have zkb:=bL (st:=eV) j3 jZ Jy;have zwd:=zkb.binds (ps:=["self","rows","columns","cost"]) λ_ _ _ _ _ _=>bd4 λ_ _ _ _=>rfl
 have zGc:cT K zea "part_rows" zpa:=⟨jV,jT,Jy⟩;have zTd:cT K zaa "parts" zja:=⟨l9,gx,Ib⟩;have zAb:=bL (st:=cZ) nr mL JB;have zCe:=zAb.binds (ps:=["self","pictures"]) λ_ _ _ _ _ _=>bd2 λ_ _=>rfl
 have zme:cT K zaa "made" zwa:=⟨ny,mQ,JB⟩;have zTa:=bL (st:=c5) jh iW JS;have zgc:=zTa.binds (ps:=["self","rows","columns","cost"]) λ_ _ _ _ _ _=>bd4 λ_ _ _ _=>rfl
 have zKb:cT K zaa "part_rows" zka:=⟨i',i4,JS⟩;have zne:cT K zba "parts" zja:=⟨nc,gx,Ib⟩;have zIb:=bL (st:=dM) nZ ol JJ;have zVe:=zIb.binds (ps:=["self","pictures"]) λ_ _ _ _ _ _=>bd2 λ_ _=>rfl
 have zDe:cT K zba "made" zya:=⟨nN,nJ,JJ⟩;have zab:=bL (st:=dI) jH jI Jx;have zHc:=zab.binds (ps:=["self","rows","columns","cost"]) λ_ _ _ _ _ _=>bd4 λ_ _ _ _=>rfl
 have zhc:cT K zba "part_rows" zma:=⟨jC,jB,Jx⟩;have zEe:cT K zca "parts" zja:=⟨nR,gx,Ib⟩;have zTb:=bL (st:=eF) pj pJ JN;have zHf:=zTb.binds (ps:=["self","pictures"]) λ_ _ _ _ _ _=>bd2 λ_ _=>rfl
 have zWe:cT K zca "made" zBa:=⟨ph,pL,JN⟩;have zlb:=bL (st:=eS) ka j' JM;have zxd:=zlb.binds (ps:=["self","rows","columns","cost"]) λ_ _ _ _ _ _=>bd4 λ_ _ _ _=>rfl
 have zIc:cT K zca "part_rows" zqa:=⟨jS,jX,JM⟩;have zfh:=W.mg_of X G En;have zJa:fQ K zga:=⟨⟨LU,J7,Ka,JV⟩,KK,Bd,Bj,Lz⟩;have zvb:=bL (st:=eQ) mE lZ KG;have zoe:=zvb.binds (ps:=["self","signs","start","rules"]) λ_ _ _ _ _ _=>bd4 λ_ _ _ _=>rfl
 have zWg:Mk K zga zva:=⟨AQ,AX,mw,B3⟩;have gk:JI K zga:=⟨zJa,J3,LW,Kg,J8⟩;have zJc:=bL (st:=eO) rA rL JP;have zbg:=zJc.binds (ps:=["self","k"]) λ_ _ _ _ _ _=>bd2 λ_ _=>rfl
 have zIf:cT K zga "rule" zFa:=⟨qU,qC,JP⟩;have zKc:=bL (st:=eJ) rh qa JA;have zcg:=zKc.binds (ps:=["self"]) λ_ _ _ _ _ _=>bd1 λ_=>rfl
 have zJf:cT K zga "many" zGa:=⟨r9,qv,JA⟩;have zmb:=bL (st:=bY) kq km JO;have zyd:=zmb.binds (ps:=["self","name"]) λ_ _ _ _ _ _=>bd2 λ_ _=>rfl
 have zLc:cT K zga "numbers_of" zra:=⟨kA,ki,JO⟩;have ycA:=W.mg_of X G Cr;have yat:fQ K yab:=⟨⟨yJ,yO,yX,yw⟩,yV,Bd,Bj,zf⟩;have ybF:=bL (st:=gB) ll lF k_;have ybX:=ybF.binds (ps:=["self","grammar"]) λ_ _ _ _ _ _=>bd2 λ_ _=>rfl
 have ydt:Mk K yab yaU:=⟨yy,yh,lz,x_⟩;have nt:aq K yab "grammar"/\aq K yab "steps"/\aq K yab "totals":=⟨mh,n_,mT⟩;have yba:=bL (st:=b9) mi l_ gL;have ybr:=yba.binds (ps:=["self","row"]) λ_ _ _ _ _ _=>bd2 λ_ _=>rfl
 have ybO:cT K yab "many_in" yaR:=⟨l7,my,gL⟩;have ybk:=bL (st:=b_) k8 lG gl;have ybS:=ybk.binds (ps:=["self","row"]) λ_ _ _ _ _ _=>bd2 λ_ _=>rfl
 have ybP:cT K yab "steps_of" yaS:=⟨lg,kX,gl⟩;have ybn:=bL (st:=ce) kZ lD gb;have ybI:=ybn.binds (ps:=["self","row"]) λ_ _ _ _ _ _=>bd2 λ_ _=>rfl
 have ybN:cT K yab "reckoned" yaM:=⟨kW,lw,gb⟩;have ybi:=bL (st:=bv) iG iw dR;have ybE:=ybi.binds (ps:=["self","rows"]) λ_ _ _ _ _ _=>bd2 λ_ _=>rfl
 have ybD:cT K yab "many_together" yaI:=⟨iE,iC,dR⟩;have ybu:=bL (st:=cA) mB ml gK;have ycO:=ybu.binds (ps:=["self","row","k"]) λ_ _ _ _ _ _=>bd3 λ_ _ _=>rfl
 have ydH:cT K yab "tree_in" yaO:=⟨l6,mv,gK⟩;have ybA:=bL (st:=cC) lh k7 f_;have ycR:=ybA.binds (ps:=["self","rows","k"]) λ_ _ _ _ _ _=>bd3 λ_ _ _=>rfl
 have ydv:cT K yab "trees_in" yaL:=⟨lH,lB,f_⟩;have ybx:=bL (st:=bT) ku jO fS;have ydy:=ybx.binds (ps:=["self","tree"]) λ_ _ _ _ _ _=>bd2 λ_ _=>rfl
 have yds:cT K yab "number_in" yaT:=⟨kt,kj,fS⟩;have ybm:=W.mg_of X G D8;have xc_TooMany:vR K yag [.type "ValueError",.type "Exception",.type "BaseException",.type "object"] "ValueError.__new__":=⟨t_⟩;have ybd:XR K yag:=⟨_,_,_,_,_,_,_,_,⟨t_⟩,PySem.F.excBase_ValueError,rfl,PySem.F.excBase_ValueError⟩;have xt_TooMany:W.XTy K yag:=⟨zL,yL,x9,yG,yI,Bd,Bj,_,_,_,AZ⟩;have ya5:=W.mg_of X G xj;have yar:=a1∣za F nb;have yaC:=a2∣zH F nb ya3 yaZ yar;have zha:AW l.prog w K mg base (bN l.prog w) 3 "Rule" "__init__" ["self","name","cost","part_names"] (dF K zfa):=⟨_,_,_,uW zRb nb zCa zxa yaC,ybT,ydm,zFf⟩;have zUb:lu l.prog w K mg base (bN l.prog w) 4 "CellRule" zea ["self","name","cost","sign"] (i5 K zfa):=⟨_,_,v8 zpb nb yaz zCa zxa yar zha,zBb,zFg,zRd⟩;have zxb:lu l.prog w K mg base (bN l.prog w) 4 "BesideRule" zaa ["self","name","cost","one","other"] (dD K zfa):=⟨_,_,qb zZa nb zha,zvg,zfg,zFc⟩;have zDb:lu l.prog w K mg base (bN l.prog w) 4 "AboveRule" zba ["self","name","cost","one","other"] (dD K zfa):=⟨_,_,sQ zib nb zha,zGg,zwg,zvd⟩;have zVb:lu l.prog w K mg base (bN l.prog w) 4 "TurnRule" zca ["self","name","cost","part","turning"] (iY K zfa):=⟨_,_,vw zqb nb zCa zxa zha,zVg,zHg,zSd⟩;have yay:pG l.prog w K mg base bF 1 "parts" (oz K R):=DG ⟨_,_,_,fO zPa nb,zLa.cl,zBe,zjb⟩ ⟨_,_,_,fO zPa nb,zKa.cl,zTd,zjb⟩ ⟨_,_,_,fO zPa nb,zOa.cl,zne,zjb⟩ ⟨_,_,_,fO zPa nb,zMa.cl,zEe,zjb⟩;have ya2:=a3∣v5 F nb ybq yaz yar;have ya1:=a4∣oG F nb rk rk4 ybp zBb zua zna ya2 yaC;have ya7:=a5∣mj F nb rk yay;have zMc:lu l.prog w K mg base (bN l.prog w) 4 "Grammar" zga ["self","signs","start","rules"] (jm K R zda):=⟨_,_,v9 zvb nb ybg zua zna ya1 ya7,zfh,zWg,zoe⟩;have yad:b0 l.prog w K mg base bF 1 zga "rule" ["self","k"] (b8 R zga):=⟨_,_,uw zJc nb zJa.cl gk.na,zJa.cl,zIf,zbg⟩;have yaV:b0 l.prog w K mg base bF 1 zga "many" ["self"] (jf R zga):=⟨_,_,v7 zKc nb zJa.cl gk.na,zJa.cl,zJf,zcg⟩;have yao:b0 l.prog w K mg base (bN l.prog w) 1 zga "numbers_of" ["self","name"] (cr R zga yaa):=⟨_,_,mn zmb nb zJa.cl gk.na ya8 ybj,zJa.cl,zLc,zyd⟩;have ybc:=a6∣Bo F nb yah zCb zrb;have ya4:=a7∣CM F nb yah zCb zrb;have ya6:=a8∣BC F nb;have ybh:=a9∣B6 F nb;have ybf:=Ko∣zM F nb ybh;have zGe:=J9∣BE F nb ya6 ybf;have yaX:pG l.prog w K mg base (bN l.prog w) 4 "made" (qf K R zia):=DG ⟨_,_,_,(uP zSb zLa.cl rk.a0.2.2.2).lift.mono nofun,zLa.cl,zUe,zGf⟩ ⟨_,_,_,(rN zAb ybc).mono nofun,zKa.cl,zme,zCe⟩ ⟨_,_,_,(sv zIb ya4).mono nofun,zOa.cl,zDe,zVe⟩ ⟨_,_,_,(uJ zTb zMa.cl rk.a3.2.2.2.2 zGe).lift,zMa.cl,zWe,zHf⟩;have yaH:=La∣lP F nb rk yaB yaF yay yad yaV m k b 18 nofun;have yaJ:=K8∣EI F nb yaX yad m k b 18 nofun;have yaq:=Kq∣Fe F nb yaH yaJ;have yaQ:=Lx∣lL F nb m k b 18 nofun;have ya0:=K3∣zb F nb nb.sum rk yad yaq yaQ;have ybb:=JY∣x4 F nb;have yai:=K7∣Bw F;have yaA:=LF∣qB F nb yai;have yan:pG l.prog w K mg base bF 3 "part_rows" (lT R):=DG ⟨_,_,_,(vL zkb nb zLa.cl rk.a0.2.1).mono nofun,zLa.cl,zGc,zwd⟩ ⟨_,_,_,qz zTa nb zKa.cl ⟨rk.a1.2.1,rk.a1.2.2.2.1,rk.a1.2.2.2.2⟩ yaA,zKa.cl,zKb,zgc⟩ ⟨_,_,_,sG zab nb zOa.cl ⟨rk.a2.2.1,rk.a2.2.2.2.1,rk.a2.2.2.2.2⟩ yaA,zOa.cl,zhc,zHc⟩ ⟨_,_,_,(vg zlb nb zMa.cl ⟨rk.a3.2.1,rk.a3.2.2.2.1,rk.a3.2.2.2.2⟩).mono nofun,zMa.cl,zIc,zxd⟩;have yal:lu l.prog w K mg base bF 1 "TreeRows" yab ["self","grammar"] (fM K):=⟨_,_,zA ybF nb,ycA,ydt,ybX⟩;have yae:=kc (P:=l.prog) (w:=w) (base:=base) (R:=R) yba ybk ybn ybi nb nb.sum yah yat nt ybO ybP ybN ybD ybr ybS ybI ybE yai yao yad yan 17;have yaj:=A0 (P:=l.prog) (w:=w) (base:=base) (R:=R) yba ybk ybn ybi nb nb.sum yah yat nt ybO ybP ybN ybD ybr ybS ybI ybE yai yao yad yan
 have yau:=pe (P:=l.prog) (w:=w) (base:=base) (R:=R) ybu ybA nb yat yaE yaD ydH ydv ycO ycR yae yaj 17;have yax:=Ke∣Bt F nb rk yad yaq ybb ya0;have yaN:=lV (P:=l.prog) (w:=w) (base:=base) (R:=R) ybx nb yat nt yds ydy yax yaj yae 16 nofun;have ybl:=K0.cal l.prog w base X G (λ_ F m k b=>rn F nb yat nt yal yae) (λ_ _ _ _ _ _=>bd5 λ_ _ _ _ _=>rfl);have ya9:=Ku.cal l.prog w base X G (λ_ F m k b=>zh F nb yat nt yal yau) (λ_ _ _ _ _ _=>bd6 λ_ _ _ _ _ _=>rfl);have ybe:=Lo∣uy F nb yat nt yaq yal yaN;have yaY:=KZ.cal l.prog w base X G (λ_ F m k b=>wD F nb yat nt ya5 ybm ybd yal yae yau) (λ_ _ _ _ _ _=>bd5 λ_ _ _ _ _=>rfl);have zDa:=KA∣Bp F nb;have zWd:=Lm∣zi F nb zDa;have zVd:=Kl∣xV F nb;have zXd:=LP∣yW F nb;have zwb:=Lj∣qP F nb;have zYd:=J2∣xU F nb zwb;have zHe:=Lb∣AM F nb rk zUb zxb zDb zVb;have zWb:=LS∣u4 F nb gk zHe zMc;have zHa:=KU∣wo F nb;have zIa:=K9∣wm F nb;have zUd:=Kv∣ye F nb;have zVa:=JU.cal l.prog w base X G (λ_ F m k b=>Ez F nb nb.sum zUd) (λ_ _ _ _ _ _=>bd6 λ_ _ _ _ _ _=>rfl);have zEb:=KY∣sj F nb;have zIe:=KH∣Cz F nb zEb zVa zHa zIa;have zZd:=Lk∣yq F nb zVa zIe;have zUa:=Le∣s_ F nb zHa zIa m k b 16 nofun;have zsb:=J6∣tq F nb nb.sum m k b 16 nofun;have ztb:=Kz∣wL F nb zUa zsb m k b 16 nofun;have zFb:=LN∣sK F nb zVd ybl ya9 ybe yaY;exact GZ FL nb zDa zWd zXd zYd zZd zWb ztb zFb
theorem walk{l:W.OpenLaw}{loose:Ng}{XP:(Str->Option Value)->Heap->Prop}{YP:World->Heap->Prop}{d:DefRec}{K:Params->W.Frag}(hn:l.most=some 63)(hdf:d.params.defaults=[])
  (hY:∀(w:Ni) (h:Heap),YP w h->(K w.params).In h)
  (F:∀(w:Ni) (mg:Nc) (fa:Addr) (h:Heap),(K w.params).In h->h.Ns mainGlobals mg->mg d.name=some (.ref fa) ->
   ∃fd:FuncData,(∀(s:M9) (u:Value),BindsTo s fd ⟨[u],[]⟩ [("_law_script",u)])/\∀base:Heap,(K w.params).In base->base.Ns mainGlobals mg->aT l.prog w (K w.params) mg base bF 110 fa fd ["_law_script"] (vW (K w.params))) :
  W.WalkO q loose XP YP l.row.toRowW d [] (λf vs=>PySem.call f vs):=
 L2.walk_of (n:=63) (k:=110) (x:="_law_script") (CX:=λ_=>bF) (sp:=λw=>vW (K w.params)) hn nofun hdf ⟨rfl,nofun,nofun⟩ hY F (λ_ _ a ns hl _ hS=>⟨a,ns,rfl,hS,λ_=>rfl⟩) λ_ _ _ _ _ z=>z
end Q52
open PySem PySem.W PyProof.Rows
local macro_rules | `(tactic| walk_at "kk")=>`(tactic| first | (refine' Q52.fk_mk ?p ?q ?r ?s;(case p=>k_is);(case q=>k_is);(case r=>k_is);(case s=>k_is)) | (refine' Q52.mk_mk ?p ?q ?r ?s;(case p=>k_is);(case q=>k_is);(case r=>k_is);(case s=>k_is)) | k_is | kernel_rfl | rfl | decide +kernel)
set_option maxRecDepth 100000 in
set_option maxHeartbeats 0 in
theorem PySem.Challenge.cw_quiltlaw_k52_whole_trees_in_rows_holds : PySem.Challenge.rw_quiltlaw_k52_whole_trees_in_rows.Holds := by
 w_on;o_law;k_head;(case hw=>w_witness2)
 k_fill
 refine Q52.walk (l:=PySem.Challenge.rw_quiltlaw_k52_whole_trees_in_rows) rfl rfl (λw h Y=>PySem.W.kIn_of Y) ?F
 case F=>
  intro w mg fa h KX G hmg
  apply Q52.all_mk KX G hmg
  all_goals (try walk_at "kk")
