import PyProof.Rows.All
import Wide.All
import OpenK.AllK
import Wide.FinOn
import Lean
import PyProof.EqAt
import PyProof.EqKinds
import PyProof.TupleCall
import PyProof.CollectIter
import PyProof.JoinWalk
import PyProof.StrOps
import PyProof.ListOps
import PyProof.StrLawsJoin
import KE.KRevIter
import PyProof.StrLawsFirst
import PyProof.Rows.StrNews2
import PyProof.StrLawsTight
import PyProof.StrLawsChain
import KE.KIntText
import KE.IntTextLaws
import PyProof.ListStr
import KE.KDictLaws
import KE.KDictList
import PyProof.Rows.SetFrom
import PyProof.FitsReplace
import KE.KEqDict
import PyProof.Rows.SumAny
import PyProof.Rows.CallKwBuiltin
import PyProof.EnumMake
import PyProof.TupleIter
import PyProof.Rows.TupIter
import PyProof.FactsAll.range_2
import PyProof.AutoSeq1
import PyProof.Rows.Range3
import PyProof.ZipIter
import PyProof.Rows.SortRuns
import PyProof.Rows.SortPure
import PyProof.Rows.SortShell
import PyProof.Rows.SortStr
import PyProof.MeetsSeq3
import KE.KSortTup
import KE.KSortKey
import PyProof.MeetsDictList
import PyProof.CollectStr
import PySem.Challenge.RW_quiltlaw_k38_pictures_listed
set_option bootstrap.genMatcherCode false
set_option tactic.hygienic false
def nop(x:Lean.Syntax):Lean.Syntax:=x.rewriteBottomUp λ|.atom _ v=>.atom .none v|.ident _ r n p=>.ident .none r n p|.node _ k a=>.node .none k a|y=>y
local macro_rules|`($m:declModifiers theorem $i:declId $s:declSig $v:declVal)=>do
 if i.raw.getPos?.isNone then Lean.Macro.throwUnsupported
 return nop (<-`($m:declModifiers theorem $i $s:declSig $v:declVal))
local macro_rules|`($m:declModifiers def $i:declId $s:optDeclSig $v:declVal)=>do
 if m.raw != (<-`(def x:=0)).raw[0]then Lean.Macro.throwUnsupported
 return nop (<-`(noncomputable def $i $s $v:declVal))
local macro_rules|`($m:declModifiers abbrev $i:declId $s:optDeclSig $v:declVal)=>do
 if m.raw != (<-`(def x:=0)).raw[0]then Lean.Macro.throwUnsupported
 return nop (<-`(noncomputable abbrev $i $s $v:declVal))
local macro_rules|`(command|set_option $o:ident $s:str)=>do
 if o.getId != `tw then Lean.Macro.throwUnsupported
 let n:=s.getString.toList.toArray.map λc=>if c.toNat<64 then c.toNat-35 else if c.toNat<92 then c.toNat-36 else c.toNat-37
 let a<-(List.range (n.size/10)).toArray.mapM λi=>let x:=(List.range 10).foldl (λa j=>a*90+n[10*i+j]!) 0;let y:=Lean.mkIdent (.mkSimple s!"tw{x}");`(command|theorem $y:ident:True:=⟨⟩)
 return Lean.mkNullNode a
namespace PySem.W.Fast
set_option tw "6flbyNBuuT>P]mn&Cz'a&-|%:.vLx_?8q2i=`Jg?FS4%0/-AaHBgR#;9:Dx_N4nTd6<${m38BO[-c6+XIqeyJnmXM{5<ma$.<f69Hows_2eQEF7*K^CpQ'M1.OxmLsU|t{7{nzxAt*HXQcBYrpC6}?2AR12ep4YF1H_y]|s$HXP_1ScHD:T'<5UD+wC981?{[NSZ(R##SW[Afq)-wy.-r.C.:W$V<L(wFOI%aL8(j^P2Z]sYQByOIltpo,,%g.O/lRq<MtVqN0/=YlN$JR+8H%q4P42^/4Q3nC9<o,6LPpIx)4PxeplWd*3O}5mOUuun4VWLULI0Tj=#=n?1f=gb(Wa+ROv#i$*QXGu2].fOE1Tya0Q]T,#1NV#+Umj:#/IA3`a|86-d,X:XELY:1xE.Q|BjOt$+:gGKoe50%[rOzdH>lS7YY=|>whB,:QtEHEbnJn'n/~'1)rEh$Kd|vq9l}jFJP4Bd)$9E6CPr4z=+qn0>U6Q/29AC3J2su9.JH,G>7Ll*$UEp,w2$zf.Mc-<8wx_8kapX3>8X]P{4JwC,(x#08oLVG(No)pi>(H;nD~zA_k3oR6i;s3ZM--)*^=$WpT5)L=P%/g9&8iQ`jDmm,48y3qCVB=,L_{SB8[R+:ws9=*V;Ik|GV-/+:p_4Njoo;&q~Z&V)<D.M}z#a(ZxX0M:bdipyQ+#EzvYj9#kJ>oc/pAj[a9JA>X<bld0/6:5vf(x38])v)EqLFEK]KLFTD|o]TF5BauH#[it7+(_w(*FvPk9DLylDt(E?0e%8scfoa_#(`j$Mu,O3$*k-cVw7M}RBJ)Ck[EJ-Mu`e]|Fbv7,I|x{9G4Er2=&vNfc8)6NveOI2OZB[4Gc|8`5BNlI%NA<c{-r^NUT[;6|+VKIW`^*A&3*j6o+wo8egPWFvMRdcfMI8#iuBe8D>:URaEU=cm2q21b><wO5g-[-WEz(vL9LpAE^1/e$;X6&a2K5E8N_d-&00x}mWo6I1Lnlg&S<(6ztJL1N'wS.&>:#&WXihFzR(;'d^O,(Im;$?>pV.R>`}lq*Eh_AH%JCERwbo3UCn-]R`Ni(8Y):#,qeP0NDg$5irvZN=[lvSA)dROIDpr*kQs'$vM8kBNtzZD[W0E5yNOB$](7Uv`vHTPDmmw1,Rj%M;3$1.O4mL*<^26mR]7PA9owOu(7dk?aIJ$J90WVH3r#R7;,}U+V):=+F]$`8lTdR)2Fn>A,:S_M4w8G.Dtn8hpisE/^iRzY.DaI<0Z9dAJ/hK=WZ,3K[N=vA7^KRzC#XYFI[s.e0F^.=`ETRWYp#$RoxUY<GBVU'<y:#v7H%4OKe%Hy'1+b/(:qJ^7m|d0N`%c{%_tK&z:RpmL4f*%9'mx[ZD_E1OR0RfUc#9',bs#FSU_kCLm;4i,`eVI1Ggb$94]VIhiWlH;*ne6_Z{C>';<P4s;:c]UL]RLhA=.*o^&yLor>{{w5&D'|Up+XZ7G]#X$Bp|&^GP7psQ1Z1j[qF)a6-d|VO}P0E:QgbOJZ=d$PJG2OZ{4B9#cl3G1B;Gt.(a8_O],lW=9ZD,;VCPSYKe<IG?:V>%OPLPcN0UkDD$:I2'L:.N+:'-yJ*^l'P+RFK;I=QX3.CDM76N)]O.:eW3C_0$]+#{/{96.$2RZ#{_%$-^AX'hBt0M5,}7fUsS,.FDgYx7pU:k#AqY078b6$*^cz6G^nQRq0C6#M.8;sJrRW:O20)Sm=/DFQA4HtCT'4)uDl?8`q-ghqLS(dR13mG5AY-$z0s3JJX:I-x<W6s4LW9G[G[inRIINiR1;^t,fEPG-$}|k58bN^ugOol{4AL:vEi;dXh4I$K?;UL`Dp?,oqeyOb2zPadHAqn%0j+m'W~MO.CrCHdatU;IFS9DW~_F$|<^*4{$+?GkWM4Di8AjV`<w56bft.^p,_)$,bq(.k9qAsDPJ;^zk33;0'&CzoP39054T>wZyLMbQZ=n+.s#GQ<%KDT}$1-XUQfs&#/}4${7QXkl)#5qOIoV6r.BI>ylW}/FIB,v+y~+s`Nm<PO]:PxFK532N0]u]2o+L=Mkjr.yq;#je2mmJU1m=SZ5S~]DWNPEd#;TKd{]L$jch/wP4s>`coz_0=jZM`F1bMs|C)M>Z?nN)LZaPm-d<-]xu?2`r.5tH3(ZAaVZzeu+Tm'8[a/-|TgaHD.&['Q9b:31wB1G#r>KSDp$vbage4R`(<13Q0IpOUjrNvD&V<#.DkM3/3T,%l]4|TY7+EGnKUS'-^.[?(o%?Q>Z*WNkp),4kH&OH0C.l;tiP,0/]pP-qw18ObL*/fjOdC>lj{+-oyE2P~81s>-}'f;As+Y_YA9v%'{1_eViiELxP}W+0Ln:4;WX'Od{m^1(&'#?>VE2$lR6+'9$8xSXEDuDUT>&L)fLp3mS*;Femm92v?;V;jB3mTlHcZ.V4+)'[D$}R(<^nL>a0uQ}2g15y,g5Fc8BF^K#Ie/9JD`+MP.yLk%~d55c[qQbCP&Vi$A7M[uI0HPn552$;al/V`1gDy;3K`?nMq'+|6X/60H9LyR1)34e|qNPx%J$WB0]0+S?1d5syN0EZLMbl'#wOCB~HrU+7O>9c,Z:?mtz9au)'^'Lgl*By.j)#%3h:&~(x^IKO<Ov$Wp)O<W$1?BnJQ;X|z.QFd|%XKbAFtXY$1jG*$FrT?7iwH2IDz=Y[OiIP2SEZMZa2?q.M%LS#3s/JtM%Z$vz7ihA08fAaj(tcp>)/zH*Qv,(A<({rLT-OIPIbW$N4)In-R5wyXexN`B7[X&6<Ai[?~m?lskc=d3dw%EYkU_GD)W9)>5]Q~5ogT/)t;Wj+Gu))p-t2,Ht%i|jRh>E#n;|WkMjM(LG?>KD%^8z255oiyb)]>5n&GPtj_(N/smOO>E.:5NofUmnVbo75'dYVX-VGJHHsn|R+~E1,MS<|ZWJ4gAUY*>G.dSg,[LLVX]ft%(/tpAXb#a/,e=`)a=;JDE8Uv2/cZ7aG}tFXW&Jy'#jPr9SVqFm=&CUevnEcH,_4&QF3tf{H_d?8R^=,wRXv}yQH;{eHr8%MFNA&_4~ounFV:i}*JMy4)yU*5GUS8i>w90FI)`?pN1~J?3th:,Wi&rc8S0gmY33#AMn)s'9h/#I*$p^{y|y_f<:&BlX,eKt8fi~84h:$S7h=S/?ikA&8g'go^k>rSI,U4QVg8}~(xrW.^hLW[:U<]ZepA*.R(V`P&mMECCIW&9gTji4NJRLVp{A)AG~<*Fb7;j>+}SS-V`=[:+Y%RQ)(O;MKPTN']{UfdDqm,NI*Tdd-jbN&l_IUd6PA7ex$8+UA59:L]}#nh*jl[_FEtRA5W2_|ci96lL1jBKeHOS?/)2/;_F{9o7^`7,~~6b]O95fQ}8kc%R<3VI3/'{%&|D3p^PN4a?*(Cd<c~YLGT~v/ISXZ_=JNFN,)Ttm$w5ijR(AmF(&OmrIGx,T/(]RLyP}e1;(X.`?N{0y)g0`~2QzCa$ct&-e&+M/0=hM0Hk2P-/Y[^Y4HV;k0:H0p735c=3]k`rp92(39v(r3/bp?%,^;,VhmYsBH5YY.Il}B=,?BIbbGR?{3`H737)mpeR3s(~d^#.^4EV0Ogos|4B]KoOaHxr43/IY2vh?bj/xVb[S.:M$'GQ{)FqS&I+N*j?,]iOU(')UdP`n2r,Rd7Ps<y]*B:D2S(^N_.+kG&s1xUpY7#gR}+qS20CblXL+h]MQF##.)1PZhM89^-ZHfVF.0qk.IN5m{G$23$`^zd12'/{2Tdvh=*$R#^,'y8|IRP=dmw)D)G1LiT~qbVwp>Nm=_xj.M$#ZIQpVd.;`E`N&2=?(S8*=t|mWWgki,Wgy3=^1^J-{`=`k8T:wGk(R9k;Nm;=tQ]A<ugM12RFztBuGoe0mY340n4cLH1+erv5=UsQS$PTS|79a8l.W1k$*iH5anO1wFBC%EE.VM^I&7H=;vig(_V8J9n5vbam:LiJ[wL]Y?]}31.]cT|i;y]Jv.KFlYM%#;B._H4JO|1E4X_U%}Eo+IUX1LcaR=7N`hrk(f85uPqqVYta[3j.EcAEFw>7QL8>n4o<<1<IG0g=sJ;Zj%7ATcl,?&`')B]2R9J9r8.Kj#Mu*W:EzW?mPG5B(?P+O/G{8<W#bp1HvWg)IR#*qMR%[^`N#doD?grA`E*Ow/b25vK0C#LBmmR[h9S/z&[$t>dKOg'-8f|+QDTZ[,*/8EW#vkIMLNsftKl8P57/wVzDLllv~xPXUE{87N4[=QS1^4}WULy&G:^$R1i$<wv=C~qd?GO`23Zd7hQj=nK2#h*LynS*;7eh'4d.z2u6c||COb`ra&Fg%b0o1XwQ+3[]=F+Z)N[Gm5/^TOP1Ei{T{7{wJ%)tdw^x.eBK<tRj0Q^le1t*H]f/ij3/0XmuH[}XwP}2Lhh,R,]6o$i]-4z;JB.gT6WEtWT.2?=f>&pE'.=;m?%rNc{'(Mbt%<#3NAg_,iNz_^]EZ-(f8C~7B$lHl}{2#BRFn<Ndq+I-=2fm4'_<V]w?6Y#Nix.~HRM$-aJ?t<qK~3agc^4'B9X),hl#hX11AS^1F(#F9QYNp:QlpOe6m?P>u|~i1G$K5Z'fP1RH(Yjg.azh$B{o6kjlht^(1wl4k8%P.M+OBbRr)?`&jv2GQJ<$YQ`mO3V:jjI-KxT+|nfaC;Cx[6be)%|LLndmV;dIz(?M/=D:H3p5TXof`FZ=:5qjNo^V,n(GitpjXi}XOG.9iX>G+?WKt?_.R-%Ob9a0Ow}H?$n;~Sy[EF&?t$MVG.}`/Q^:7uA?&/yz4NGdNShQwi.2%f-'zwJ].GC[MEy.0`o2Pr3Vn'4pFA)lNs<L=)#>f]6ud}gi7Em6:#8j`)7-}239uRxRPC<feEo9U{H(1ct&L%5X7?7gFqw]`>NOSe?XV*i|9D[Vw&R`g=uMKrj^T^&i]8YSorm#$hFJu]e9t3:.oNsu-=#`xnkAh^rV(K>5/8n9FZ3D{aHQ4]np~PcYN:4WsW8w0|oG$<V&[ju_]D,]eyBx1Pq?MIJ>g7:QJ7?5|F}5+~_1&xHg6HeR~RQZ>Wy<Bk<8dnXsx7N6t7DpN)NI`)(Px4P5Z%[422LGL3Z'hg8Dr)4si50{zR2/|kxZ%>2EI:Y`vCJ(6P^-+;;=L#I%Tw^`g}sd|)]_`Tc?HB^/V_u,91-DACjwaj]<~?v:Q%q]50/(`OFamD|s+snMJt5KC{1HYCgrXmf+(QCM*jTaZ7o#QOghXm/>M1r(EpKygxRE.FX&oTzZff|S*~g(k^85(EwP;mLP227,OTZpnybgcH,SCzZvcle6Y6o:SQM0LIa-sk*d5&}&E+/&gMG03BI6o)62#U7F-id<*Ic_%BO0P-E6#WDFcJ<^=ALoo6)zkK{m+5F;scTFIUobHLULyTP`ut}5V_TB0$C9)=yryd,((Wa3LKD%'K5J=8jez}&.Dxe(s?W~nNpD-Lf2_9_N'_5A[0Uvdw7dD){d#3#PCFkI)OkE(;4]V/5k3#8dGq-NfB-JdU0L=CMd_d3EVHB19U21Uo*+-#ETnw?}tXx0q-[NgvJGn)b'2G0oivQB<$f0:*^?xCeaohbs~'.2W0oapQXz02MUf*_n#DtF{zs%XAuP:2n.*}-uPkOEzERzrWi;24f7WFYic-p2.L'vov:OzGD4{A7M{dU.DJ_H86&`j3{BeP2kf$~Q(MdT9Ug3KLe&mia[N:f3kB-7PTA{K0f:gnq1?YYL*4CeHj7t^-n^5hn<K0U8*W'z|ah28.=s(jjG~1CA$p+Sm2_VGAf$&UAwT]l>?;xam0YF*Ch}#2AW18Y3j3_Qf'WrM?|eBPr`'':I=J~Qo,e<(0x.Pg,corbP[84|X~c/C)I1[3g`nXxLt3$txL.5m1$h4-F&'_/J-UF2*EsJq-$}al/AGzgIAu#J.PjJ]Ej,c&`E3%P1]kEAlzq1HQeb/Zvj4&1<O00jdBTe}27j3U.u/CV0Ro%XokRO5EwB~mU+gJ'*mRcAvZV%?0&%~pS=X-I013VP,0~,W6yj{bsb^cf0D3n)U(oUdP9,?1A%_n*J,n4|AWr5n#VJQCOa'7409uWHeihsE9GkFFn5LNY2y;1m'iuO`'e:=GR,WF48oh8IxGBiU?vmA&5gd~h7*4X=]=ZpW/eQkT<|Us$6;*&O3qufCMKy}ffxqan>9XDTGFJ,[:Yy-q=8+Bj9#[1J,/&$&8dKA#cM%HEP0iDqp_N_Q-7=L6nt-xa281ZYTc_hX60*&Rac:.TBD-s7cEJ6/R^}/t&3z+kCS`^3Q'v;Z./6:~(J*~XRf<DtgT}li*5V1P%DRAuAcwA4%X6^H,y]nt*d;hi=|F6%YX.2;SG{}FFH}=9>V[XI6|E--:L-PKOo,AH#ovI^N_<%w<}iPo`L{nL%J%H/]s9NR+Hyl2oGr.uM`S)gwLH-J8<`xt1~A?kCW;]sO0KfP8%;x)0&PeG6Xv-Q<aBC0J`^jbpt38U#;h6#dv&.<<|;l]8<|MAC<A^=Q?_y`G^De?OdNQ<)Uf+IEF6IrIh+S,V,t`<0&S'bDb:$bK^daz9m0vQ)8aX<X4g(nOCc)XO/HEf5YA<3C&C72=d(NKjz0Hl4eZt[M{q|z)cm:-xH3tkLN=RTd=H|9#=INDc?Kwq2nT6Yp`zmuPyTgBsb|T;H*~VaYz;O)?2(Eq^MrTT*ff~I2Rs&Z/g_,V}4TdRE}pj/6UFz=6__U'|oY];%q:62cK[L]**R_[-{auaLVpj~Z3{y?49HGSZ;P(-SI&e9/^Zo}.;Pg8[G#OZKwoxvc.iZ}'7t?KaC|q3Ra}^]L^N[Z)*n;O[.`?3Iz/4*;#9Ha-tHxsU9uUgHi5n;y5(XvNtFY'6x0P,)/c7r3zs'YEKx#WFF`QS;Y~]YsnZHz/xcX95oF%4K&gS4GTzJb7^FI#)5}Ot$V5=e'}wTzEGw)=+3&Jz*DdF8N:?B,4n$.V7u%&KLOS4YkHziE*]Q{F;}QF8L2'o}z;|U:?f#pMoc}6CHJhA6k+5d2NzlY#TZ&)(MT|slwBn_I/&d[U)ge>TMEGx)3id|/()>LK^AtsBFy(?a{gw_gRt?VlD9]]B>FvNhi?0r]LR15.Wj?,PP=EI&9,Ym52`_9)IUOT_'W.[vR}6c)&Hd^.eI'<?ID0zmb)eFNO/f^Q4Q4oc6lOFLA#0Y]?RH0g(JZyBLV=&T?CWB1:'E?$oi7GD4Psd[ul^>'QFos[dhe6mOy?91A9V5FRSE#JI,01k%EGpGM=sx^E%~VATE1mS4B[Q2h5btj-Y/sY=24n<7lCC.h`ff^/`sb#gDK$MB)'UX5kb1SI*nVK8p`$URjApny~n3xP`M=*8*2=|'gMDeMwH6$9_:r'?lg%OJW|3=dB~e>3evvTM<Qux+-}xCObXC4M^BMxL]w=6O%qd{=Mj4MFz^]d$(Ewt%f$gwoL0U4Pu*BSE)j8,.yLwg]8R?l#[XwiykK;&P(IgHaf8m6.f6<'1wk>b"
end PySem.W.Fast
set_option autoImplicit true
set_option relaxedAutoImplicit true
abbrev q04:=@PySem.wpAny_bind
abbrev q05:=@PySem.wpAny_pure
abbrev q06:=@if_neg
abbrev q07:=@if_pos
abbrev q08:=@decide_eq_false
abbrev q09:=@decide_eq_true
abbrev q0A:=@List.getD_eq_getElem?_getD
abbrev q0B:=@List.mem_cons_self
abbrev q0C:=@List.mem_append_right
abbrev q0D:=@List.mem_append_left
abbrev q0E:=@List.take_add_one
abbrev q0F:=@List.take_of_length_le
abbrev q0G:=@Array.getElem?_toList
abbrev q0H:=@List.mem_of_mem_take
abbrev q0I:=@List.mem_of_mem_drop
abbrev q0J:=@List.length_range
abbrev q0K:=@List.map_congr_left
abbrev q0L:=@Option.getD_some
abbrev q0M:=@List.range_succ
abbrev q0N:=@List.length_zip
abbrev q0O:=@Bool.and_eq_true
abbrev q0P:=@Nat.le_of_lt
abbrev q0Q:=@absurd
abbrev q0R:=@congrArg
abbrev q0S:=@Option.some.inj
abbrev q0T:=@List.drop_eq_getElem_cons
abbrev q0U:=@List.filterMap_cons
abbrev q0V:=@PySem.sizeLine_eq
abbrev q0W:=@PySem.wpAny_mono
abbrev q0X:=@PySem.wpAny_holding
abbrev q0Y:=@List.length_singleton
abbrev q0Z:=@Bool.false_eq_true
abbrev q0a:=@decide_eq_true_eq
abbrev q0b:=@List.nodup_cons
theorem zzl(h:1=1:=by exact Or.inl rfl):1=1:=h
theorem zz0(h:1=1:=by rfl):1=1:=h
theorem zz1(h:1=1:=by decide):1=1:=h
theorem zz2(h:1=1:=by decide +kernel):1=1:=h
theorem zz3(h:1=1:=by first | exact .inl rfl | exact .inr rfl | assumption):1=1:=h
theorem zz4(h:1=1:=by intro _;rfl):1=1:=h
theorem zz5(h:1=1:=by with_unfolding_all rfl):1=1:=h
theorem zz6(h:1=1:=by first | exact Or.inl rfl | exact Or.inr (Or.inl rfl) | exact Or.inr (Or.inr rfl)):1=1:=h
local macro_rules|`(tactic|omega)=>`(tactic|first|lia|omega +splitDisjunctions)
set_option linter.all false
set_option Elab.async false
set_option maxRecDepth 100000
abbrev Nu:=PySem.Value->PySem.Shared->Prop
abbrev Nv:=PySem.W.Frag
abbrev Nw:=List (PySem.Addr×PySem.Obj)
abbrev Ny:=List Nat
abbrev Nz:=PySem.Shared
abbrev NA:=List PySem.Value
abbrev NC:=List PySem.Addr
abbrev ND:=PySem.Str->Option PySem.Value
abbrev NE:=PySem.FuncData
abbrev NF:=PySem.Program
abbrev NG:=List PySem.Str
abbrev NH:=PySem.Around
abbrev NJ:=PySem.World
abbrev NK:=Option PySem.Addr
abbrev NL:=List PySem.Expr
local macro_rules|`(term|⋯)=>`(by omega)
local macro_rules|`(term|nofun)=>`(by decide)
abbrev Mv:=@List.getElem?_eq_getElem
abbrev Mw:=@List.getElem?_eq_some_iff
abbrev Mx:=@PySem.Heap.get?_push_of_some
abbrev My:=@List.length_map
abbrev Mz:=@List.mem_singleton
abbrev MA:=@List.getElem?_map
abbrev MB:=@List.mem_of_getElem?
abbrev MD:=@PySem.Heap.get?_update_other
abbrev ME:=@PySem.Heap.get?_push_size
abbrev MF:=@List.size_toArray
abbrev MG:=@List.getElem_mem
abbrev MJ:=@Int.toNat_natCast
abbrev ML:=@PySem.Heap.get?_update_self
abbrev MM:=@List.length_cons
abbrev MN:=@List.map_append
abbrev MO:=@List.mem_append
abbrev MP:=@List.map_map
abbrev MQ:=@List.mem_cons
abbrev MR:=@List.mem_cons_of_mem
abbrev MS:=@List.length_reverse
abbrev MT:=@Nat.lt_of_lt_of_le
abbrev MU:=@Nat.ne_of_lt
abbrev MV:=@List.getElem?_append_right
abbrev MW:=@List.getElem?_append_left
abbrev MX:=@List.length_append
abbrev MY:=@Nat.le_refl
abbrev MZ:=@Nat.zero_le
abbrev M3:=@Bool.false_ne_true
abbrev M4:=@PySem.Heap.lt_size
abbrev M5:=@Option.map_eq_some_iff
abbrev M6:=@List.getElem_map
abbrev M7:=@List.getElem?_cons_succ
abbrev M8:=@List.map_cons
abbrev M9:=@Nat.le_trans
abbrev M_:=@Nat.lt_irrefl
abbrev M':=@Nat.lt_succ_self
abbrev Na:=@List.append_nil
abbrev Nb:=@List.append_assoc
abbrev Nc:=@List.getElem?_set_self
abbrev Nd:=@List.take_length
abbrev Nf:=@List.length_take
abbrev Ng:=@List.length_drop
abbrev Nh:=@Nat.lt_of_le_of_lt
abbrev Ni:=@List.length_eq_zero_iff
abbrev Nj:=@List.mem_map
abbrev Nk:=@List.all_eq_true
abbrev Nl:=@Nat.add_le_add_left
abbrev Nm:=@List.getElem_toArray
abbrev Nn:=@List.nil_append
abbrev No:=@Int.emod_nonneg
abbrev Np:=@Int.emod_lt_of_pos
abbrev Nq:=@Int.toNat_of_nonneg
abbrev Nr:=@Nat.min_eq_left
abbrev Nt:=@List.drop_zero
set_option hygiene false
local macro_rules|`(a⁻¹)=>`((.ins C b [("name",.str (tx n)),("cost",.int c),("part_names",.ref l)]))
local macro_rules|`(↑$f)=>`($f P w K mg base bd)
local macro_rules|`($a∣$b)=>`(($a).cal l.prog w base X G (λ_ F m k b=>$b))
set_option hygiene true
namespace L2
open PySem PySem.Spec PyProof.Rows
abbrev c_:=Sum Int Str
def pG:c_->Value->Bool
 | .inl k,v=>Value.isInt k v
 | .inr x,v=>Value.isStrOf x v
def Jl(w:NJ):c_->Int
 | .inl k=>hashInt k
 | .inr x=>hashStr w x
theorem cn:∀{k:c_} {v:Value},pG k v=true->(∃i t,k=Sum.inl i/\v=Value.int i t)\/(∃x t,k=Sum.inr x/\v=Value.str x t)
 | .inl i,v,h=>by
  obtain⟨t,e⟩:=Value.isInt_shape (k:=i) (v:=v) h;exact .inl ⟨i,t,rfl,e⟩
 | .inr x,v,h=>by
  obtain⟨t,e⟩:=Value.isStrOf_shape (x:=x) (v:=v) h;exact .inr ⟨x,t,rfl,e⟩
theorem Ar(i:Int)(t:Tok):pG (.inl i) (.int i t)=true:=by simp[pG,Value.isInt]
theorem Av(x:Str)(t:Tok):pG (.inr x) (.str x t)=true:=by simp[pG,Value.isStrOf]
theorem F1(a b:Int):decide ((Sum.inl a:c_)=Sum.inl b)=(a==b):=by
 by_cases e:a=b
 ·subst e;simp
 ·have h:¬ (Sum.inl a:c_)=Sum.inl b:=λq=>e (Sum.inl.inj q)
  rw[q08 h];exact(beq_eq_false_iff_ne.mpr e).symm
theorem Gz(a b:Str):decide ((Sum.inr a:c_)=Sum.inr b)=decide (a=b):=by
 by_cases e:a=b
 ·subst e;simp
 ·have h:¬ (Sum.inr a:c_)=Sum.inr b:=λq=>e (Sum.inr.inj q)
  rw[q08 h,q08 e]
theorem FU(a:Int)(b:Str):decide ((Sum.inl a:c_)=Sum.inr b)=false:=q08 (λq=>nomatch q)
theorem FR(a:Str)(b:Int):decide ((Sum.inr a:c_)=Sum.inl b)=false:=q08 (λq=>nomatch q)
def bV(prog:NF)(w:NJ):PySem.KeyKind prog w c_ where
 is:=pG
 hash:=Jl w
 inj:=λv a b ha hb=>by
  rcases cn ha with⟨i,t,rfl,rfl⟩ | ⟨x,t,rfl,rfl⟩
  ·rcases cn hb with⟨j,u,rfl,e⟩ | ⟨y,u,rfl,e⟩
   ·injection e with e1 _;rw[e1]
   ·exact nomatch e
  ·rcases cn hb with⟨j,u,rfl,e⟩ | ⟨y,u,rfl,e⟩
   ·exact nomatch e
   ·injection e with e1 _;rw[e1]
 byValue:=λk v h=>by
  rcases cn h with⟨i,t,rfl,rfl⟩ | ⟨x,t,rfl,rfl⟩<;>rfl
 pyHash:=λhv h=>by
  rcases cn hv with⟨i,t,rfl,rfl⟩ | ⟨x,t,rfl,rfl⟩
  ·exact wpAny_pyHash_int h
  ·exact wpAny_pyHash_str h
 eqBool:=λhu hv h=>by
  rcases cn hu with⟨i,t,rfl,rfl⟩ | ⟨x,t,rfl,rfl⟩
  ·rcases cn hv with⟨j,u,rfl,rfl⟩ | ⟨y,u,rfl,rfl⟩
   ·rw[F1]at h;exact wpAny_eqBool_int h
   ·rw[FU]at h;exact SeqAt.EqAt.int_str i t y u _ _ _ _ h
  ·rcases cn hv with⟨j,u,rfl,rfl⟩ | ⟨y,u,rfl,rfl⟩
   ·rw[FR]at h;exact SeqAt.EqAt.str_int x t j u _ _ _ _ h
   ·rw[Gz]at h;exact wpAny_eqBool_str h
 «strs»:=λk x t v h=>by
  rcases cn h with⟨i,u,rfl,e⟩ | ⟨y,u,rfl,e⟩
  ·exact nomatch e
  ·injection e with e1 _
   subst e1;cases v<;>rfl
theorem vK(prog:NF)(w:NJ)(i:Int)(t:Tok):(bV prog w).is (.inl i) (.int i t)=true:=Ar i t
theorem vZ(prog:NF)(w:NJ)(x:Str)(t:Tok):(bV prog w).is (.inr x) (.str x t)=true:=Av x t
inductive V where
 |non | bl (b:Bool) | int (i:Int) | str (x:Str) | byt (b:Array UInt8) | flt (b:UInt64) | ref (a:Addr) | ty (n:String)
 deriving DecidableEq
def bx:V->Value->Prop
 | .non,u=>u=Value.none
 | .bl b,u=>u=Value.bool b
 | .int i,u=>∃t,u=Value.int i t
 | .str x,u=>∃t,u=Value.str x t
 | .byt b,u=>∃t,u=Value.bytes b t
 | .flt b,u=>∃t,u=Value.float b t
 | .ref a,u=>u=Value.ref a
 | .ty n,u=>u=Value.type n
abbrev bj:List V->List Value->Prop:=Paired bx
theorem bj.length(r:bj xs us):xs.length=us.length:=Paired.length r
theorem bj.get:∀{xs:List V} {us:NA} {i:Nat} {x:V},bj xs us->xs[i]?=some x->∃u,us[i]?=some u/\bx x u
 |_,_,_,_,.nil,e=>by simp at e
 |_,_,0,_,.cons r _,e=>by simp at e;subst e;exact⟨_,rfl,r⟩
 |_,_,i+1,x,.cons _ t,e=>by
  obtain⟨u,h1,h2⟩:=bj.get (i:=i) (x:=x) t (by simpa using e);exact⟨u,by simpa using h1,h2⟩
theorem bj.append:∀{xs ys:List V} {us ws:NA},bj xs us->bj ys ws->bj (xs++ys) (us++ws)
 |_,_,_,_,.nil,s=>s
 |_,_,_,_,.cons r t,s=>.cons r (bj.append t s)
theorem bj.take:∀{xs:List V} {us:NA} (n:Nat),bj xs us->bj (xs.take n) (us.take n)
 |_,_,0,_=>.nil
 |_,_,_+1,.nil=>.nil
 |_,_,n+1,.cons r t=>.cons r (bj.take n t)
theorem bj.drop:∀{xs:List V} {us:NA} (n:Nat),bj xs us->bj (xs.drop n) (us.drop n)
 |_,_,0,r=>r
 |_,_,_+1,.nil=>.nil
 |_,_,n+1,.cons _ t=>bj.drop n t
def iG:Option V->Option Value->Prop
 |some v,some u=>bx v u
 |none,none=>True
 |_,_=>False
def KV{κ:Type}:List (κ×V)->List (κ×Value)->Prop:=Paired fun(p:κ×V) (q:κ×Value)=>p.1=q.1/\bx p.2 q.2
def kV:c_->V
 | .inl i=>.int i
 | .inr x=>.str x
inductive HO where
  |lst (xs:List V)
  |tup (xs:List V)
  |dK (kvs:List (c_×V)) | dT (kvs:List (List c_×V))
  |set(S:Int->Bool) (n:Nat)
  |ins (C dx:Addr) (fs:List (Str×V))
  |own (x:Addr)
  |xd (fs:List (Str×V))
  |met (f x:Addr)
  |rng (lo hi:Int)
  |frz (o:Obj) (u:HO)
  |tbl (ps:Array Value)
  |ext (φ:Heap->Prop)
abbrev Hp:=Addr->Option HO
def aD(H:Hp)(a:Addr)(o:HO):Hp:=λb=>if b=a then some o else H b
theorem ae:aD H a o a=some o:=by unfold aD;rw[q07 rfl]
theorem aq{a b:Addr}(h:b≠a):aD H a o b=H b:=by unfold aD;rw[q06 h]
theorem ld:aD (aD H a o) a u=aD H a u:=by
 funext b;unfold aD;split<;>rfl
theorem rB{H:Hp}{o u:HO}(h:H a=some o)(h':H b=some u)(d:o≠u):a≠b:=by
 intro e;subst e;rw[h]at h';exact d (q0S h')
theorem aA{H:Hp}{o:HO}(h:H a=some o)(h':H b=none):a≠b:=by
 intro e;subst e;rw[h]at h';cases h'
section
variable (P:NF)(w:NJ)
def bU(H:Hp)(h:Heap)(a:Addr):HO->Prop
 | .lst xs=>xs.length<=sizeLine/\∃(its:NA) (n:Nat),bj xs its/\h.get? a=some {cls:=.type "list",data:=.seq its.toArray n}
 | .tup xs=>xs.length<=sizeLine/\∃its:List Value,bj xs its/\IsTup h a its.toArray
 | .dK kvs=>kvs.length<=sizeLine/\(a==sysModules)=false/\∃vs,KV kvs vs/\h.DictOf (bV P w) a vs
 | .dT kvs=>kvs.length<=sizeLine/\(a==sysModules)=false/\∃xs:List (List c_×Addr×Value),
   Paired (fun(p:List c_×V) (q:List c_×Addr×Value)=>p.1=q.1/\H q.2.1=some (.tup (p.1.map kV))/\bx p.2 q.2.2) kvs xs /\
   ∃o es ep,h.get? a=some o/\o.ExactDict/\o.data=.dict es ep/\es.toList=xs.map (entryOfKey (tupleKind (bV P w)))/\(xs.map (·.1)).Nodup
 | .set S n=>h.SetOf (intKind P w) a S n
 | .ins C dx fs=>H dx=some (.own a)/\fs.length<=1000/\dx≠a/\h.get? a=some (PySem.W.instObj C dx) /\
   ∃mA,h.Ns1 dx mA/\(∀f,iG (fs.lookup f) (mA f))/\PySem.Within mA (fs.map (·.1))
 | .own _=>∃o,h.get? a=some o
 | .xd fs=>∃mA,h.Ns1 a mA/\∀f,iG (fs.lookup f) (mA f)
 | .rng lo hi=>∃t u v,h.get? a=some {cls:=.type "range",data:=.fields #[.int lo t,.int hi u,.int 1 v]}
 | .frz o u=>h.get? a=some o/\bU H h a u
 | .tbl ps=>h.get? a=some {cls:=.none,data:=.fields ps}
 | .met f x=>h.get? a=some (PySem.W.methodObj (.ref f) (.ref x))
 | .ext φ=>φ h/\(∃o,h.get? a=some o)/\∀h1 h2:Heap,φ h1->(∀o,h1.get? a=some o->h2.get? a=some o)->φ h2
def jA(H:Hp)(h:Heap):Prop:=∀a o,H a=some o->bU P w H h a o
end
section
variable {P:NF}{w:NJ}{H H':Hp}{h h':Heap}{a:Addr}{o:HO}
theorem bU.lt(x:bU P w H h a o):a<h.objs.size:=by
 cases o with
 |lst xs=>obtain⟨_,_,_,_,e⟩:=x;exact M4 e
 |tup xs=>obtain⟨_,_,_,p⟩:=x;exact p.lt
 |dK kvs=>obtain⟨_,_,_,_,o,_,_,e,_⟩:=x;exact M4 e
 |dT kvs=>obtain⟨_,_,_,_,o,_,_,e,_⟩:=x;exact M4 e
 |set S n=>obtain⟨o,_,_,_,e,_⟩:=x;exact M4 e
 |ins C dx fs=>obtain⟨_,_,_,e,_⟩:=x;exact M4 e
 |own y=>obtain⟨_,e⟩:=x;exact M4 e
 |xd fs=>obtain⟨_,⟨_,_,_,e,_⟩,_⟩:=x;exact M4 e
 |rng lo hi=>obtain⟨_,_,_,e⟩:=x;exact M4 e
 |frz ob u=>obtain⟨e,_⟩:=x;exact M4 e
 |tbl ps=>exact M4 (show h.get? a=some _ from x)
 |met f y=>exact M4 (show h.get? a=some _ from x)
 |ext φ=>obtain⟨_,⟨_,e⟩,_⟩:=x;exact M4 e
theorem Paired.mapP{α β:Type}{F G:α->β->Prop}:∀{l₁:List α} {l₂:List β},Paired F l₁ l₂->(∀a b,F a b->G a b)->Paired G l₁ l₂
 |_,_,.nil,_=>.nil
 |_,_,.cons r t,f=>.cons (f _ _ r) (Paired.mapP t f)
theorem bU.stay(x:bU P w H h a o)(k:∀b u,(b=a\/H b=some (.own a))->h.get? b=some u->h'.get? b=some u)
  (ho:∀b,H b=some (.own a)->H' b=some (.own a)) (ht:∀b xs,H b=some (.tup xs)->H' b=some (.tup xs)):bU P w H' h' a o:=by
 induction o with
 |lst xs=>obtain⟨z,l,n,r,e⟩:=x;exact⟨z,l,n,r,k _ _ (.inl rfl) e⟩
 |tup xs=>obtain⟨z,l,r,g,e,c⟩:=x;exact⟨z,l,r,g,k _ _ (.inl rfl) e,c⟩
 |dK kvs=>obtain⟨z,y,vs,r,g,i,j,e,c⟩:=x;exact⟨z,y,vs,r,g,i,j,k _ _ (.inl rfl) e,c⟩
 |dT kvs=>
  obtain⟨z,y,xs,r,g,i,j,e,c⟩:=x;exact⟨z,y,xs,Paired.mapP r λp q z=>⟨z.1,ht _ _ z.2.1,z.2.2⟩,g,i,j,k _ _ (.inl rfl) e,c⟩
 |set S n=>obtain⟨g,i,j,t,e,c⟩:=x;exact⟨g,i,j,t,k _ _ (.inl rfl) e,c⟩
 |ins C dx fs=>
  obtain⟨d,z,ne,e,B,⟨m,i,j,G,c⟩,r⟩:=x;exact⟨ho _ d,z,ne,k _ _ (.inl rfl) e,B,⟨m,i,j,k _ _ (.inr d) G,c⟩,r⟩
 |own y=>obtain⟨g,e⟩:=x;exact⟨g,k _ _ (.inl rfl) e⟩
 |xd fs=>obtain⟨B,⟨m,i,j,e,c⟩,r⟩:=x;exact⟨B,⟨m,i,j,k _ _ (.inl rfl) e,c⟩,r⟩
 |rng lo hi=>obtain⟨t,u,v,e⟩:=x;exact⟨t,u,v,k _ _ (.inl rfl) e⟩
 |frz g u ih=>obtain⟨e,q⟩:=x;exact⟨k _ _ (.inl rfl) e,ih q⟩
 |tbl ps=>
  have e:h.get? a=some {cls:=.none,data:=.fields ps}:=x;show h'.get? a=some {cls:=.none,data:=.fields ps};exact k a _ (.inl rfl) e
 |met f y=>
  have e:h.get? a=some (PySem.W.methodObj (.ref f) (.ref y)):=x;show h'.get? a=some (PySem.W.methodObj (.ref f) (.ref y));exact k a _ (.inl rfl) e
 |ext φ=>obtain⟨p,⟨o,e⟩,D⟩:=x;exact⟨D _ _ p λo q=>k _ _ (.inl rfl) q,⟨o,k _ _ (.inl rfl) e⟩,D⟩
theorem jA.lt(x:jA P w H h)(e:H a=some o):a<h.objs.size:=(x a o e).lt
theorem jA.fresh(x:jA P w H h)(e:h.objs.size<=a):H a=none:=by
 cases q:H a with
 |none=>rfl
 |some u=>exact q0Q (MT (x.lt q) e) (M_ _)
theorem jA.kept(x:jA P w H h)(k:∀b u,h.get? b=some u->h'.get? b=some u):jA P w H h':=λa o e=>
 (x a o e).stay (λb u _ q=>k b u q) (λ_ q=>q) λ_ _ q=>q
theorem jA.laid(x:jA P w H h)(k:∀b u,h.get? b=some u->h'.get? b=some u)(hp:h.objs.size<=a)(new:bU P w (aD H a o) h' a o):jA P w (aD H a o) h':=λb u e=>by
 have hn:=x.fresh hp
 by_cases hb:b=a
 ·subst hb;rw[ae]at e;cases e;exact new
 ·rw[aq hb]at e
  exact(x b u e).stay (λc v _ q=>k c v q) (λc q=>by rw[aq (aA q hn)];exact q) λc xs q=>by rw[aq (aA q hn)];exact q
end
def Rd(H:Hp)(a:Addr)(u:HO):Prop:=H a=some u\/∃o,H a=some (.frz o u)
theorem Rd.ok(r:Rd H a u)(x:jA P w H h):bU P w H h a u:=by
 rcases r with r | ⟨o,r⟩
 ·exact x a u r
 ·obtain⟨_,q⟩:=x a _ r
  exact q
def IA:Option HO->Prop
 |some (.lst _)=>True
 |some (.dK _)=>True
 |some (.dT _)=>True
 |some (.set _ _)=>True
 |some (.ins _ _ _)=>True
 |some (.ext _)=>True
 |_=>False
section
variable {P:NF}{w:NJ}{H:Hp}{h h':Heap}{x e:Addr}{o':HO}
theorem jA.write(ok:jA P w H h)(mu:IA (H x))(he:e=x\/H e=some (.own x))(k:∀b u,b≠e->h.get? b=some u->h'.get? b=some u)(heo:∃u,h'.get? e=some u)
  (new:bU P w (aD H x o') h' x o'):jA P w (aD H x o') h':=λb u q=>by
 have nown:∀c y,H c=some (.own y)->c≠x:=λc y r z=>by subst z;rw[r]at mu;exact mu
 have ntup:∀c xs,H c=some (.tup xs)->c≠x:=λc xs r z=>by subst z;rw[r]at mu;exact mu
 by_cases hb:b=x
 ·subst hb;rw[ae]at q;cases q;exact new
 ·rw[aq hb]at q
  by_cases hbe:b=e
  ·have q':H b=some (.own x):=by
    rcases he with z | z
    ·exact q0Q (hbe.trans z) hb
    ·rw[hbe];exact z
   rw[q]at q';cases q'
   obtain⟨v,a⟩:=heo;exact⟨v,by rw[hbe];exact a⟩
  ·refine(ok b u q).stay (λc v hc r=>k c v ?_ r) (λc r=>by rw[aq (nown c b r)];exact r) λc xs r=>by rw[aq (ntup c xs r)];exact r
   rcases hc with rfl | hc
   ·exact hbe
   ·rintro rfl
    rcases he with z | z
    ·exact nown c b hc z
    ·rw[hc]at z;cases z;exact hb rfl
end
structure Un(fs ex:NC)(H H':Hp)(h h':Heap):Prop where
 keep:∀b o,h.get? b=some o->H b=none->b∉fs->b∉ex->h'.get? b=some o
 slot:∀b o,h.get? b=some o->H b=none->b∈fs->b∉ex->∃sl,h'.get? b=some {o with slots:=sl}
 free:∀b o,h.get? b=some o->H b=none->b∉ex->H' b=none
 there:∀b o,h.get? b=some o->b∉ex->∃o',h'.get? b=some o'
 tups:∀b xs,H b=some (.tup xs)->H' b=some (.tup xs)
 frzs:∀b o u,H b=some (.frz o u)->H' b=some (.frz o u)
 tbls:∀b ps,H b=some (.tbl ps)->∃more,H' b=some (.tbl (ps++more))
section
variable {fs fs' ex ex':NC}{H H1 H2:Hp}{h h1 h2 h':Heap}{a x e:Addr}{o:HO}
theorem Un.any(u:Un fs ex H H1 h h1){b:Addr}{ob:Obj}(q:h.get? b=some ob)(n:H b=none)(hx:b∉ex):∃sl,h1.get? b=some {ob with slots:=sl}:=by
 by_cases a:b∈fs
 ·exact u.slot b ob q n a hx
 ·exact⟨ob.slots,u.keep b ob q n a hx⟩
theorem Un.kept(k:∀b u,h.get? b=some u->h'.get? b=some u):Un fs ex H H h h':=
 ⟨λb ob q _ _ _=>k b ob q,λb ob q _ _ _=>⟨ob.slots,k b ob q⟩,λ_ _ _ n _=>n,λb ob q _=>⟨ob,k b ob q⟩,λ_ _ q=>q,λ_ _ _ q=>q,λ_ ps q=>⟨#[],by rw[q];simp⟩⟩
theorem Un.refl:Un fs ex H H h h:=Un.kept λ_ _ q=>q
theorem Un.laid(k:∀b u,h.get? b=some u->h'.get? b=some u)(hp:h.objs.size<=a)(hn:H a=none):Un fs ex H (aD H a o) h h' where
 keep:=λb u q _ _ _=>k b u q
 slot:=λb u q _ _ _=>⟨u.slots,k b u q⟩
 free:=λb u q n _=>by rw[aq (MU (MT (M4 q) hp))];exact n
 there:=λb u q _=>⟨u,k b u q⟩
 tups:=λb xs q=>by rw[aq (aA q hn)];exact q
 frzs:=λb u xs q=>by rw[aq (aA q hn)];exact q
 tbls:=λb ps q=>⟨#[],by rw[aq (aA q hn),q];simp⟩
theorem Un.write(mu:IA (H x))(he:e=x\/H e=some (.own x))(k:∀b u,b≠e->h.get? b=some u->h'.get? b=some u)(heo:∃u,h'.get? e=some u):Un fs ex H (aD H x o) h h':=by
 have d:∀b,H b=none->b≠x:=λb n z=>by subst z;rw[n]at mu;exact mu
 have g:∀b,H b=none->b≠e:=λb n z=>by
  subst z;rcases he with r | r
  ·exact d b n r
  ·rw[n]at r;cases r
 have c:∀b u,H b=some u->¬ IA (some u)->b≠x:=λb u q nm z=>by subst z;rw[q]at mu;exact nm mu
 refine⟨λb u q n _ _=>k b u (g b n) q,λb u q n _ _=>⟨u.slots,k b u (g b n) q⟩,λb u q n _=>by rw[aq (d b n)];exact n,λb u q _=>?_,
  λb i q=>by rw[aq (c b _ q λz=>z)];exact q,λb u i q=>by rw[aq (c b _ q λz=>z)];exact q,λb ps q=>⟨#[],by rw[aq (c b _ q λz=>z),q];simp⟩⟩
 by_cases a:b=e
 ·subst a;exact heo
 ·exact⟨u,k b u a q⟩
end
def IP(h:Heap)(H:Hp):List Addr:=(List.range h.objs.size).filter λa=>(H a).isSome
def uL(h:Heap)(H:Hp):Heap:=PySem.W.hideAll h (IP h H)
theorem zT(h:Heap)(H:Hp):(uL h H).objs.size=h.objs.size:=PySem.W.hideAll_size _ _
theorem BT{h:Heap}{H:Hp}{b:Addr}{o:Obj}(e:h.get? b=some o)(n:H b=none):(uL h H).get? b=some o:=
 PySem.W.hideAll_get _ e λhm=>by
  have q:(H b).isSome=true:=(List.mem_filter.mp hm).2;rw[n]at q;simp at q
theorem Fj{b:Addr}{o:Obj}(e:(uL h H).get? b=some o):h.get? b=some o/\H b=none:=by
 have a:h.get? b=some o:=PySem.W.of_hideAll (IP h H) e;refine⟨a,?_⟩;cases q:H b with
 |none=>rfl
 |some x=>
  have c:b∈IP h H:=List.mem_filter.mpr ⟨List.mem_range.mpr (M4 a),by simp[q]⟩;have z:(uL h H).get? b=none:=PySem.W.hideAll_none (IP h H) c;rw[z]at e;cases e
def Ee(g h:Heap)(L:Addr):List (Addr×Obj):=(List.range h.objs.size).filterMap λa=>if a=L\/(g.get? a).isSome=true then none else(h.get? a).map λo=>(a,o)
def cN(g h:Heap)(L d:Addr):List (Addr×Obj):=(Ee g h L).filter λp=>decide (p.1≠d)
structure Mod(K:Nv)(mg:ND)(base:Heap):Prop where
 kin:K.In base
 glob:base.Ns mainGlobals mg
 blt:∃mb,base.Ns builtinsNs mb/\∀x:Str,x≠"__name__"->mb x=bootBuiltins x
 nolimit:base.NoLimit
structure Cx where
 prog:Program
 w:World
 K:PySem.W.Frag
 mg:Str->Option Value
 base:Heap
 A:Around
 N:List Str
 s₀:Shared
 H₀:Hp
 env:Env
 outer:List Env
 stack:List Env
 ex:List Addr
 fn:Str->Bool
 calm:Bool
 pn:List (Addr×Obj)
 xe:Value->Shared->Prop
def lG(l:List Env):List Addr:=l.filterMap (·.frame)
abbrev Cx.fs(X:Cx):List Addr:=lG X.outer
def IG(sc:Scope)(x:Str):Prop:=sc.names.lookup x=some .local\/sc.names.lookup x=some .cell\/sc.names.lookup x=some .free
def Loc(sc:Scope)(x:Str):Prop:=sc.names.lookup x=some .local\/sc.names.lookup x=some .cell
def IY(env:Env)(h:Heap)(m:ND)(x:Str)(u:Value):Prop:=
 (env.kindOf x=some .local/\m x=some u)\/((env.kindOf x=some .cell\/env.kindOf x=some .free)/\∃c,env.cells.lookup x=some c/\h.IsCell c (some u))
structure Cx.Ok(X:Cx):Prop where
 mod:Mod X.K X.mg X.base
 kind:X.env.scope.kind=.function
 glob:X.env.globals=mainGlobals
 blt:X.env.builtins=builtinsNs
 above:X.s₀.heap.objs.size<=X.env.locals
 inj:∀x y c,X.env.cells.lookup x=some c->X.env.cells.lookup y=some c->x=y
 has:∀x,(X.env.kindOf x=some .cell\/X.env.kindOf x=some .free)->∃c,X.env.cells.lookup x=some c
 cab:∀x c,X.fn x=true->X.env.cells.lookup x=some c->X.s₀.heap.objs.size<=c
 hd:X.calm=true->X.A.handled=none
 frames:X.A.frames=some X.stack
 stk:X.stack=X.outer\/(X.stack=X.env::X.outer/\X.env.frame=some X.env.locals)
 exf:∀b∈X.ex,b≠X.env.locals/\∀x c,X.env.cells.lookup x=some c->c≠b
 bs:∀b o,X.base.get? b=some o->X.s₀.heap.get? b=some o/\X.H₀ b=none
 bsz:X.base.objs.size<=X.s₀.heap.objs.size
 noex:∀b o,X.base.get? b=some o->b∉X.ex
 exfs:∀b∈X.ex,b∉X.fs
 funs:X.s₀.heap.FunFrames X.base X.outer
 frf:∀b∈X.fs,X.H₀ b=none
structure Inv(X:Cx)(pins:Nw)(σ:List (Option V))(H:Hp)(s:Nz):Prop where
 ok:X.Ok
 os:s.os=X.s₀.os
 bare:AllBare s.gens
 base:Un X.fs X.ex X.H₀ H X.s₀.heap s.heap
 loc:∃m,s.heap.Ns X.env.locals m/\∀(i:Nat) (x:Str) (v:V),X.N[i]?=some x->σ[i]?=some (some v)->IG X.env.scope x->∃u,bx v u/\IY X.env s.heap m x u
 cell:∀x c,X.env.cells.lookup x=some c->∃v,s.heap.IsCell c v
 free:H X.env.locals=none
 freeC:∀x c,X.env.cells.lookup x=some c->H c=none
 pin:∀p∈X.pn++pins,s.heap.get? p.1=some p.2/\H p.1=none/\p.1≠X.env.locals/\p.1∉X.fs/\∀v,p.2.data≠.cell v
 hok:jA X.prog X.w H s.heap
 len:σ.length=X.N.length
section
variable {X:Cx}{pins:Nw}{σ:List (Option V)}{H H':Hp}{s:Nz}{h':Heap}
theorem Cx.Ok.nofr(ok:X.Ok){b:Addr}{o:Obj}(e:X.base.get? b=some o):b∉X.fs:=λhb=>by
 have:=(ok.funs.mem hb).1;rw[e]at this;cases this
theorem Inv.bs(I:Inv X pins σ H s):∀b o,X.base.get? b=some o->s.heap.get? b=some o/\H b=none:=λb o e=>
 ⟨I.base.keep b o (I.ok.bs b o e).1 (I.ok.bs b o e).2 (I.ok.nofr e) (I.ok.noex b o e),I.base.free b o (I.ok.bs b o e).1 (I.ok.bs b o e).2 (I.ok.noex b o e)⟩
theorem Inv.bk(I:Inv X pins σ H s):∀b o,X.base.get? b=some o->s.heap.get? b=some o:=λb o e=>(I.bs b o e).1
theorem Inv.mod(I:Inv X pins σ H s):Mod X.K X.mg X.base:=I.ok.mod
theorem Inv.kIn(I:Inv X pins σ H s):X.K.In s.heap:=I.ok.mod.kin.keeps I.bk
theorem Inv.lt(I:Inv X pins σ H s):X.env.locals<s.heap.objs.size:=let ⟨_,hn,_⟩:=I.loc;hn.lt
theorem Inv.sz(I:Inv X pins σ H s):X.s₀.heap.objs.size<=s.heap.objs.size:=M9 I.ok.above (q0P I.lt)
theorem Inv.nofs(I:Inv X pins σ H s){a:Addr}(h:s.heap.objs.size<=a):a∉X.fs:=λhb=>by
 obtain⟨_,o,ho,_⟩:=I.ok.funs.mem hb;exact q0Q (MT (M4 ho) (M9 I.sz h)) (M_ _)
theorem Inv.cne(I:Inv X pins σ H s):∀x c,X.env.cells.lookup x=some c->c≠X.env.locals:=λx c e z=>by
 obtain⟨v,o,ho,hd⟩:=I.cell x c e;obtain⟨m,⟨o',es,ep,ho',hd',_⟩,_⟩:=I.loc;rw[z,ho']at ho;cases ho;rw[hd']at hd;cases hd
theorem Inv.funs(I:Inv X pins σ H s):s.heap.FunFrames X.base X.outer:=by
 have all:∀(l:List Env),(∀b∈lG l,b∈X.fs)->X.s₀.heap.FunFrames X.base l->s.heap.FunFrames X.base l:=by
  intro l
  induction l with
  |nil=>intro _ _;trivial
  |cons env r ih=>
   intro g k;obtain⟨m,⟨L,o,a,j,i,n⟩,hr⟩:=k;have d:L∈X.fs:=g L (by unfold lG;rw[q0U,a];exact q0B);obtain⟨sl,e⟩:=I.base.slot L o i (I.ok.frf L d) d λz=>I.ok.exfs L z d;exact⟨m,⟨L,_,a,j,e,n⟩,ih (λb c=>g b (by unfold lG;rw[q0U,a];exact MR _ c)) hr⟩
 exact all X.outer (λ_ c=>c) I.ok.funs
theorem Inv.stack(I:Inv X pins σ H s):s.heap.FunFrames X.base X.stack:=by
 rcases I.ok.stk with e | ⟨e,b⟩
 ·rw[e];exact I.funs
 ·rw[e]
  obtain⟨m,a,_⟩:=I.loc;refine .cons (by rw[I.ok.kind];decide) b a ?_ I.funs;exact Heap.get?_none_of_le (M9 I.ok.bsz I.ok.above)
theorem Inv.stkSub(I:Inv X pins σ H s):∀b∈lG X.stack,b∈X.env.locals::X.fs:=λb hb=>by
 rcases I.ok.stk with e | ⟨e,hf⟩
 ·rw[e]at hb;exact MR _ hb
 ·rw[e]at hb
  unfold lG at hb;rw[q0U,hf]at hb;exact hb
theorem Inv.stkFree(I:Inv X pins σ H s):∀b∈lG X.stack,H b=none:=λb hb=>by
 rcases MQ.mp (I.stkSub b hb) with e | hb
 ·rw[e];exact I.free
 ·obtain⟨_,o,ho,_⟩:=I.ok.funs.mem hb
  exact I.base.free b o ho (I.ok.frf b hb) λz=>I.ok.exfs b z hb
theorem Inv.step{t':Nat}{d':Drawn}{ch:NC}(I:Inv X pins σ H s)
  (hch:∀b∈ch,(b∈X.ex\/X.s₀.heap.objs.size<=b)/\b≠X.env.locals/\(∀x c,X.env.cells.lookup x=some c->c≠b)/\∀p∈X.pn++pins,p.1≠b)
  (keep:∀b o,b≠X.env.locals->b∉X.fs->b∉ch->s.heap.get? b=some o->H b=none->h'.get? b=some o)
  (slot:∀b o,b≠X.env.locals->b∈X.fs->b∉ch->s.heap.get? b=some o->H b=none->∃sl,h'.get? b=some {o with slots:=sl}) (free:∀b o,b∉ch->s.heap.get? b=some o->H b=none->H' b=none)
  (there:∀b o,b∉ch->s.heap.get? b=some o->∃o',h'.get? b=some o')
  (tups:∀b xs,H b=some (.tup xs)->H' b=some (.tup xs)) (frzs:∀b o u,H b=some (.frz o u)->H' b=some (.frz o u)) (tbls:∀b ps,H b=some (.tbl ps)->∃more,H' b=some (.tbl (ps++more)))
  (ns:∀m,s.heap.Ns X.env.locals m->h'.Ns X.env.locals m) (hok:jA X.prog X.w H' h') (hg:AllBare g') :
  Inv X pins σ H' {s with heap:=h',gens:=g',drawn:=d',toks:=t' }:=by
 have D:∀b o,X.s₀.heap.get? b=some o->b≠X.env.locals:=λb o e=>MU (MT (M4 e) I.ok.above);have w:∀b o,X.s₀.heap.get? b=some o->b∉X.ex->b∉ch:=λb o e a B=>by
  rcases(hch b B).1 with z | z
  ·exact a z
  ·exact q0Q (MT (M4 e) z) (M_ _)
 have j:∀x c,X.env.cells.lookup x=some c->∀v,s.heap.IsCell c v->h'.IsCell c v:=λx c e v ⟨o,C,L⟩=>by
  have g:c∉ch:=λz=>(hch c z).2.2.1 x c e rfl
  by_cases R:c∈X.fs
  ·obtain⟨sl,q⟩:=slot c o (I.cne x c e) R g C (I.freeC x c e)
   exact⟨_,q,L⟩
  ·exact⟨o,keep c o (I.cne x c e) R g C (I.freeC x c e),L⟩
 refine⟨I.ok,I.os,hg,⟨λb o e n B a=>?_,λb o e n B a=>?_,λb o e n a=>?_,λb o e a=>?_,λb xs e=>tups b xs (I.base.tups b xs e),λb o xs e=>frzs b o xs (I.base.frzs b o xs e),λb ps e=>?_⟩,?_,λx c e=>?_,?_,λx c e=>?_,λp O=>?_,hok,I.len⟩
 ·exact keep b o (D b o e) B (w b o e a) (I.base.keep b o e n B a) (I.base.free b o e n a)
 ·obtain⟨sl,y⟩:=I.base.slot b o e n B a
  obtain⟨J,G⟩:=slot b _ (D b o e) B (w b o e a) y (I.base.free b o e n a);exact⟨J,G⟩
 ·obtain⟨o',y⟩:=I.base.there b o e a
  exact free b o' (w b o e a) y (I.base.free b o e n a)
 ·obtain⟨o',y⟩:=I.base.there b o e a
  exact there b o' (w b o e a) y
 ·obtain⟨m1,y⟩:=I.base.tbls b ps e
  obtain⟨S,G⟩:=tbls b _ y;exact⟨m1++S,by rw[G,Array.append_assoc]⟩
 ·obtain⟨m,T,U⟩:=I.loc
  refine⟨m,ns m T,λi x v y G Y=>?_⟩;obtain⟨u,r,l⟩:=U i x v y G Y;refine⟨u,r,?_⟩;rcases l with l | ⟨k,c,e,z⟩
  ·exact .inl l
  ·exact .inr ⟨k,c,e,j x c e _ z⟩
 ·obtain⟨v,z⟩:=I.cell x c e
  exact⟨v,j x c e v z⟩
 ·obtain⟨m,⟨o,_,_,C,_⟩,_⟩:=I.loc
  exact free _ o (λz=>(hch _ z).2.1 rfl) C I.free
 ·obtain⟨v,o,C,L⟩:=I.cell x c e
  exact free c o (λz=>(hch c z).2.2.1 x c e rfl) C (I.freeC x c e)
 ·obtain⟨e,n,ne,M,d⟩:=I.pin p O
  have g:p.1∉ch:=λz=>(hch p.1 z).2.2.2 p O rfl;exact⟨keep p.1 p.2 ne M g e n,free p.1 p.2 g e n,ne,M,d⟩
theorem Inv.un{t':Nat}(I:Inv X pins σ H s)(u:Un X.fs [] H H' s.heap h')(hok:jA X.prog X.w H' h'):Inv X pins σ H' {s with heap:=h',toks:=t' }:=by
 obtain⟨m,⟨o,es,ep,i,r⟩,_⟩:=id I.loc;obtain⟨sl,l⟩:=u.any i I.free (by simp);exact I.step (g':=s.gens) (d':=s.drawn) (ch:=[]) (λ_ z=>nomatch z) (λb o _ c _ e n=>u.keep b o e n c (by simp)) (λb o _ c _ e n=>u.slot b o e n c (by simp)) (λb o _ e n=>u.free b o e n (by simp)) (λb o _ e=>u.there b o e (by simp)) u.tups u.frzs u.tbls (λm' k=>by
  obtain⟨o',d,g,a,j⟩:=k;rw[i]at a;cases a
  exact⟨_,d,g,l,j⟩) hok I.bare
theorem Inv.call{t':Nat}{d':Drawn}{ch:NC}(I:Inv X pins σ H s)(u:Un (lG X.stack) ch H H' s.heap h')(hok:jA X.prog X.w H' h')(hg:AllBare g')
  (hch:∀b∈ch,(b∈X.ex\/X.s₀.heap.objs.size<=b)/\b≠X.env.locals/\(∀x c,X.env.cells.lookup x=some c->c≠b)/\∀p∈X.pn++pins,p.1≠b) :
  Inv X pins σ H' {s with heap:=h',gens:=g',drawn:=d',toks:=t' }:=by
 obtain⟨m,⟨o,es,ep,k,r⟩,_⟩:=id I.loc;obtain⟨sl,g⟩:=u.any k I.free λz=>(hch _ z).2.1 rfl;exact I.step (ch:=ch) hch (λb o g v a e n=>u.keep b o e n (λz=>(MQ.mp (I.stkSub b z)).elim g v) a) (λb o _ _ a e n=>u.any e n a) (λb o a e n=>u.free b o e n a) (λb o a e=>u.there b o e a) u.tups u.frzs u.tbls (λm' q=>by
  obtain⟨o',i,j,d,l⟩:=q;rw[k]at d;cases d
  exact⟨_,i,j,g,l⟩) hok hg
theorem Inv.turned{t':Nat}{it:Addr}(I:Inv X pins σ H s)(k:∀b o,b≠it->s.heap.get? b=some o->h'.get? b=some o)(hn:H it=none)(hL:it≠X.env.locals)
  (h1:it∈X.ex\/X.s₀.heap.objs.size<=it) (h2:∀x c,X.env.cells.lookup x=some c->c≠it) (h3:∀p∈X.pn++pins,p.1≠it):Inv X pins σ H {s with heap:=h',toks:=t' }:=by
 have d:∀b u,H b=some u->b≠it:=λb u e z=>by rw[z,hn]at e;cases e
 refine I.step (g':=s.gens) (d':=s.drawn) (ch:=[it]) (λb j=>?_) (λb o _ _ a e _=>k b o (λz=>a (by simp[z])) e) (λb o _ _ a e _=>⟨o.slots,k b o (λz=>a (by simp[z])) e⟩) (λ_ _ _ _ n=>n)
  (λb o a e=>⟨o,k b o (λz=>a (by simp[z])) e⟩) (λ_ _ e=>e) (λ_ _ _ e=>e) (λb ps e=>⟨#[],by rw[e];simp⟩) (λm i=>?_) (λb u e=>?_) I.bare
 ·have e:b=it:=by simpa using j
  subst e;exact⟨h1,hL,h2,h3⟩
 ·obtain⟨o,l,w,g,r⟩:=i
  exact⟨o,l,w,k _ o (Ne.symm hL) g,r⟩
 ·refine(I.hok b u e).stay (λc v a q=>k c v ?_ q) (λ_ q=>q) λ_ _ q=>q
  rcases a with z | z
  ·rw[z];exact d b u e
  ·exact d c _ z
theorem Inv.tok(I:Inv X pins σ H s)(t:Nat):Inv X pins σ H {s with toks:=t}:=I.un (h':=s.heap) (t':=t) Un.refl I.hok
theorem Inv.kept{t':Nat}(I:Inv X pins σ H s)(k:∀b u,s.heap.get? b=some u->h'.get? b=some u):Inv X pins σ H {s with heap:=h',toks:=t' }:=I.un (Un.kept k) (I.hok.kept k)
theorem Inv.laid{a:Addr}{t':Nat}(I:Inv X pins σ H s)(k:∀b u,s.heap.get? b=some u->h'.get? b=some u)(hp:s.heap.objs.size<=a)(new:bU X.prog X.w (aD H a o) h' a o) :
  Inv X pins σ (aD H a o) {s with heap:=h',toks:=t' }:=I.un (Un.laid k hp (I.hok.fresh hp)) (I.hok.laid k hp new)
theorem Inv.write{e:Addr}{t':Nat}(I:Inv X pins σ H s)(mu:IA (H x))(he:e=x\/H e=some (.own x))(k:∀b u,b≠e->s.heap.get? b=some u->h'.get? b=some u)(heo:∃u,h'.get? e=some u)
  (new:bU X.prog X.w (aD H x o) h' x o):Inv X pins σ (aD H x o) {s with heap:=h',toks:=t' }:=I.un (Un.write mu he k heo) (I.hok.write mu he k heo new)
theorem Inv.pins_of{pins':Nw}(I:Inv X pins σ H s)(h:∀p∈pins',s.heap.get? p.1=some p.2/\H p.1=none/\p.1≠X.env.locals/\p.1∉X.fs/\∀v,p.2.data≠.cell v):Inv X pins' σ H s:=
 ⟨I.ok,I.os,I.bare,I.base,I.loc,I.cell,I.free,I.freeC,λp hp=>(MO.mp hp).elim (λz=>I.pin p (q0D _ z)) (h p),I.hok,I.len⟩
theorem qi{N:NG}(hN:N.Nodup){i j:Nat}{x:Str}(a:N[i]?=some x)(b:N[j]?=some x):i=j:=by
 obtain⟨h1,d⟩:=Mw.mp a;obtain⟨h2,c⟩:=Mw.mp b;exact(List.getElem_inj hN).mp (d.trans c.symm)
theorem rO{i:Nat}{x:Str}{Q:Unit->Shared->Prop}(I:Inv X pins σ H s)(hN:X.N.Nodup)(hi:X.N[i]?=some x)(hx:Loc X.env.scope x)(r:bx v u)
  (h:∀s',Inv X pins (σ.set i (some v)) H s'->(∃a,Heap.SameBut a s.heap s'.heap/\(a=X.env.locals\/X.env.cells.lookup x=some a))->Q () s') (hf:autoParam (X.fn x=true\/X.env.scope.names.lookup x=some .local) zz3._auto_1):wpAny M A (storeName X.env x u) Q E s:=by
 obtain⟨m,hn,hl⟩:=id I.loc;have U:(X.env.scope.kind==.class||(X.env.scope.kind==.module&&X.env.locals != X.env.globals))=false:=by rw[I.ok.kind];rfl
 have T:i<σ.length:=by rw[I.len];exact(Mw.mp hi).1
 have cne:=I.cne;have l:∀{a:Addr} {O:Heap},(∃o,s.heap.get? a=some o/\H a=none)->Heap.SameBut a s.heap O->jA X.prog X.w H O:=fun{a O} ha g b ob e=>by
  obtain⟨_,_,C⟩:=ha;refine(I.hok b ob e).stay (λc w' hc q=>(g.2 c ?_).trans q) (λ_ q=>q) λ_ _ q=>q;rintro rfl;rcases hc with rfl | hc
  ·rw[C]at e;cases e
  ·rw[C]at hc;cases hc
 rcases hx with hk | hk
 ·refine wpAny_storeName_local hk hn (λO a1 g=>?_) U
  obtain⟨oL,_,_,a0,_⟩:=id hn;refine h _ ⟨I.ok,I.os,I.bare,⟨λb o e n L hx=>?_,λb o e n L hx=>?_,I.base.free,λb o e hx=>?_,I.base.tups,I.base.frzs,I.base.tbls⟩,⟨_,a1,λj y v' B D e3=>?_⟩,λy c e=>?_,I.free,I.freeC,λp hp=>?_,l ⟨oL,a0,I.free⟩ g,by simpa using I.len⟩ ⟨_,g,.inl rfl⟩
  ·exact(g.2 b (MU (MT (M4 e) I.ok.above))).trans (I.base.keep b o e n L hx)
  ·obtain⟨sl,B⟩:=I.base.slot b o e n L hx
   exact⟨sl,(g.2 b (MU (MT (M4 e) I.ok.above))).trans B⟩
  ·obtain⟨o',B⟩:=I.base.there b o e hx
   exact⟨o',(g.2 b (MU (MT (M4 e) I.ok.above))).trans B⟩
  ·by_cases G:j=i
   ·subst G
    rw[hi]at B;cases B
    rw[Nc T]at D;cases D;exact⟨u,r,.inl ⟨hk,by simp⟩⟩
   ·rw[List.getElem?_set_ne (Ne.symm G)]at D
    obtain⟨u',r',q⟩:=hl j y v' B D e3;refine⟨u',r',?_⟩;rcases q with⟨k,e⟩ | ⟨k,c,e,z⟩
    ·refine .inl ⟨k,?_⟩
     have:y≠x:=λe=>G (qi hN B (e▸hi));simp[this,e]
    ·exact .inr ⟨k,c,e,z.sameBut g (cne y c e)⟩
  ·obtain⟨w',z⟩:=I.cell y c e
   exact⟨w',z.sameBut g (cne y c e)⟩
  ·obtain⟨e,n,ne,nf,d⟩:=I.pin p hp
   exact⟨(g.2 p.1 ne).trans e,n,ne,nf,d⟩
 ·have J:X.fn x=true:=by
   rcases hf with z | z
   ·exact z
   ·rw[z]at hk;cases hk
  obtain⟨c,hc⟩:=I.ok.has x (.inl hk);obtain⟨w',z⟩:=I.cell x c hc;refine wpAny_storeName_cell I.ok.kind hk hc z (λO Z g=>?_);obtain⟨oc,S,R⟩:=id z;refine h {s with heap:=O } ⟨I.ok,I.os,I.bare,⟨λb o e n L hx=>?_,λb o e n L hx=>?_,I.base.free,λb o e hx=>?_,I.base.tups,I.base.frzs,I.base.tbls⟩,⟨m,hn.sameBut g (Ne.symm (cne x c hc)),λj y v' B D e3=>?_⟩,λy c' e=>?_,I.free,I.freeC,λp hp=>?_,l ⟨oc,S,I.freeC x c hc⟩ g,by simpa using I.len⟩ ⟨c,g,.inr hc⟩
  ·exact(g.2 b (MU (MT (M4 e) (I.ok.cab x c J hc)))).trans (I.base.keep b o e n L hx)
  ·obtain⟨sl,B⟩:=I.base.slot b o e n L hx
   exact⟨sl,(g.2 b (MU (MT (M4 e) (I.ok.cab x c J hc)))).trans B⟩
  ·obtain⟨o',B⟩:=I.base.there b o e hx
   exact⟨o',(g.2 b (MU (MT (M4 e) (I.ok.cab x c J hc)))).trans B⟩
  ·by_cases G:j=i
   ·subst G
    rw[hi]at B;cases B
    rw[Nc T]at D;cases D;exact⟨u,r,.inr ⟨.inl hk,c,hc,Z⟩⟩
   ·rw[List.getElem?_set_ne (Ne.symm G)]at D
    obtain⟨u',r',q⟩:=hl j y v' B D e3;refine⟨u',r',?_⟩;rcases q with q | ⟨k,c',e,z'⟩
    ·exact .inl q
    ·refine .inr ⟨k,c',e,z'.sameBut g ?_⟩
     rintro rfl;exact G (qi hN B (I.ok.inj _ _ _ e hc▸hi))
  ·by_cases Y:c'=c
   ·subst Y;exact⟨_,Z⟩
   ·obtain⟨w2,z2⟩:=I.cell y c' e
    exact⟨w2,z2.sameBut g Y⟩
  ·obtain⟨e,n,ne,nf,d⟩:=I.pin p hp
   refine⟨(g.2 p.1 ?_).trans e,n,ne,nf,d⟩;intro q;rw[q,S]at e;have q':oc=p.2:=q0S e;exact d w' (by rw[<- q'];exact R)
theorem li{i:Nat}{x:Str}{Q:Unit->Shared->Prop}(I:Inv X pins σ H s)(hN:X.N.Nodup)(hi:X.N[i]?=some x)(hx:Loc X.env.scope x)(r:bx v u)
  (h:∀s',Inv X pins (σ.set i (some v)) H s'->Q () s') (hf:autoParam (X.fn x=true\/X.env.scope.names.lookup x=some .local) zz3._auto_1):wpAny M A (storeName X.env x u) Q E s:=
 rO I hN hi hx r (λs' I' _=>h s' I') hf
theorem Inv.call'{s':Nz}{ch:NC}(I:Inv X pins σ H s)(ho:s'.os=s.os)(u:Un (lG X.stack) ch H H' s.heap s'.heap)(hok:jA X.prog X.w H' s'.heap)(hg:AllBare s'.gens)
  (hch:∀b∈ch,(b∈X.ex\/X.s₀.heap.objs.size<=b)/\b≠X.env.locals/\(∀x c,X.env.cells.lookup x=some c->c≠b)/\∀p∈X.pn++pins,p.1≠b):Inv X pins σ H' s':=by
 obtain⟨h',g',d',t',a⟩:=s';have e:a=s.os:=ho;subst e;exact I.call (g':=g') (t':=t') (d':=d') u hok hg hch
end
abbrev XK:=Value->Option Addr->Hp->Prop
abbrev St:=List (Option V)
abbrev VK:=V->Hp->Prop
abbrev TE:=St->Hp->VK->Prop
abbrev TT:=St->Hp->(Bool->Hp->Prop)->Prop
abbrev TA:=St->Hp->(List V->Hp->Prop)->Prop
structure fE where
 nx:St->Hp->Prop
 rt:VK
 bk:St->Hp->Prop:=λ_ _=>False
 ct:St->Hp->Prop:=λ_ _=>False
abbrev TS:=fE->St->Hp->Prop
inductive EP(X:Cx)(pins:Nw)(σ:St)(Q:VK)(u:Value)(s':Nz):Prop
 |mk (v:V) (H':Hp) (_:Inv X pins σ H' s') (_:bx v u) (_:Q v H')
inductive TP(X:Cx)(pins:Nw)(σ:St)(Q:Bool->Hp->Prop)(b:Bool)(s':Nz):Prop
 |mk (H':Hp) (_:Inv X pins σ H' s') (_:Q b H')
inductive AP(X:Cx)(pins:Nw)(σ:St)(Q:List V->Hp->Prop)(us:NA)(s':Nz):Prop
 |mk (vs:List V) (H':Hp) (_:Inv X pins σ H' s') (_:bj vs us) (_:Q vs H')
inductive SN(X:Cx)(pins:Nw)(D:St->Hp->Prop)(s':Nz):Prop
 |mk (σ':St) (H':Hp) (_:Inv X pins σ' H' s') (_:D σ' H')
inductive SR(X:Cx)(pins:Nw)(D:V->Hp->Prop)(u:Value)(s':Nz):Prop
 |mk (v:V) (σ':St) (H':Hp) (_:Inv X pins σ' H' s') (_:bx v u) (_:D v H')
def SP(X:Cx)(pins:Nw)(D:fE)(f:Flow)(s':Nz):Prop:=
 match f with
 | .next=>SN X pins D.nx s'
 | .brk=>SN X pins D.bk s'
 | .cont=>SN X pins D.ct s'
 | .ret u=>SR X pins D.rt u s'
def PE(X:Cx)(e:Expr)(t:TE):Prop:=
 ∀(pins:Nw) (s:Nz) (σ:St) (H:Hp) (Q:VK),Inv X pins σ H s->t σ H Q->wpAny (model X.prog X.w) X.A (eval e X.env) (EP X pins σ Q) X.xe s
def PT(X:Cx)(e:Expr)(t:TT):Prop:=
 ∀(pins:Nw) (s:Nz) (σ:St) (H:Hp) (Q:Bool->Hp->Prop),Inv X pins σ H s->t σ H Q->wpAny (model X.prog X.w) X.A (isTrue e X.env (eval e X.env)) (TP X pins σ Q) X.xe s
def PW(X:Cx)(e:Expr)(t:TT):Prop:=
 ∀(whole:Sem Value) (pins:Nw) (s:Nz) (σ:St) (H:Hp) (Q:Bool->Hp->Prop),Inv X pins σ H s->t σ H Q->wpAny (model X.prog X.w) X.A (isTrue e X.env whole) (TP X pins σ Q) X.xe s
theorem PW.pt{t:TT}(h:PW X e t):PT X e t:=h _
def PA(X:Cx)(es:NL)(t:TA):Prop:=
 ∀(pos:Pos) (pins:Nw) (s:Nz) (σ:St) (H:Hp) (Q:List V->Hp->Prop),Inv X pins σ H s->t σ H Q->wpAny (model X.prog X.w) X.A (spliced (backTo pos (starEach es X.env))) (AP X pins σ Q) X.xe s
def PS(X:Cx)(st:Stmt)(t:TS):Prop:=
 ∀(pins:Nw) (s:Nz) (σ:St) (H:Hp) (D:fE),Inv X pins σ H s->t D σ H->wpAny (model X.prog X.w) X.A (exec st X.env) (SP X pins D) X.xe s
def vb(X:Cx)(st:List Stmt)(t:TS):Prop:=
 ∀(pins:Nw) (s:Nz) (σ:St) (H:Hp) (D:fE),Inv X pins σ H s->t D σ H->wpAny (model X.prog X.w) X.A (execs st X.env) (SP X pins D) X.xe s
theorem b6{α:Type}{t:Sem α}{Q Q':α->Shared->Prop}{s:Nz}(h:wpAny M A t Q E s)(hQ:∀a s,Q a s->Q' a s):wpAny M A t Q' E s:=q0W h hQ λ_ _ x=>x
section
variable {X:Cx}
def AQ(i:Nat):TE:=λσ H Q=>∃v,σ[i]?=some (some v)/\Q v H
def tC(v:V):TE:=λ_ H Q=>Q v H
theorem G6{i:Nat}{x:Str}{pos:Pos}(hN:X.N[i]?=some x)(hv:IG X.env.scope x)(hd:autoParam ((x==("__debug__":Str))=false) zz1._auto_1)(hcd:autoParam ((x==("__classdict__":Str))=false) zz1._auto_1):PE X (.Name x pos) (AQ i):=by
 intro b s σ H Q I h;obtain⟨v,e,h⟩:=h;obtain⟨m,g,k⟩:=I.loc;obtain⟨u,r,l⟩:=k i x v hN e hv;have dW:EP X b σ Q u s:=⟨v,H,I,r,h⟩;rcases l with⟨hk,j⟩ | ⟨hk,c,d,a⟩
 ·exact wpAny_Name (wpAny_loadName_local I.ok.kind hk g j dW) hd
 ·rcases hk with hk | hk
  ·exact wpAny_Name (wpAny_loadName_cell I.ok.kind hk d a dW) hd
  ·exact wpAny_Name (wpAny_loadName_free I.ok.kind hk d a dW hcd) hd
theorem aj{i j pos}:PE X (.Constant (.int i) j pos) (tC (.int i)):=λ_ _ _ H _ I h=>wpAny_Constant_int ⟨.int i,H,I.tok _,⟨_,rfl⟩,h⟩
theorem fO{b j pos}:PE X (.Constant (.bool b) j pos) (tC (.bl b)):=λ_ _ _ H _ I h=>Constant_bool ⟨.bl b,H,I,rfl,h⟩
theorem mM{j pos}:PE X (.Constant .none j pos) (tC .non):=λ_ _ _ H _ I h=>Constant_none ⟨.non,H,I,rfl,h⟩
theorem qk{x j pos}:PE X (.Constant (.str x) j pos) (tC (.str x)):=λ_ _ _ H _ I h=>Calls.Constant_str ⟨.str x,H,I.tok _,⟨_,rfl⟩,h⟩
def Gl(X:Cx)(x:Str):Prop:=X.env.kindOf x=some .globalImplicit
theorem g8{pins:Nw}{σ:St}{u:Value}{pos:Pos}{Q:Nu}(I:Inv X pins σ H s)(hg:Gl X x)(hm:X.mg x=some u)(h:Q u s)
  (hd:autoParam ((x==("__debug__":Str))=false) zz1._auto_1):wpAny (model X.prog X.w) X.A (eval (.Name x pos) X.env) Q E s:=
 Calls.Name_function_global I.ok.kind hg (Calls.loadGlobal_global (by rw[I.ok.glob];exact I.mod.glob.keeps I.bk) hm h) hd
theorem eO{pins:Nw}{σ:St}{u:Value}{pos:Pos}{Q:Nu}(I:Inv X pins σ H s)(hg:Gl X x)(hm:X.mg x=none)(hv:bootBuiltins x=some u)(h:Q u s)
  (hn:autoParam (x≠"__name__") zz1._auto_1) (hd:autoParam ((x==("__debug__":Str))=false) zz1._auto_1):wpAny (model X.prog X.w) X.A (eval (.Name x pos) X.env) Q E s:=by
 obtain⟨mb,h1,h2⟩:=I.mod.blt;exact Calls.Name_function_global I.ok.kind hg (Calls.loadGlobal_builtin (by rw[I.ok.glob];exact I.mod.glob.keeps I.bk) hm (by rw[I.ok.blt];exact h1.keeps I.bk) ((h2 x hn).trans hv) h) hd
theorem cH{u:Value}{pos:Pos}(hg:Gl X x)(hm:X.mg x=some u)(r:bx v u)(hd:autoParam ((x==("__debug__":Str))=false) zz1._auto_1):PE X (.Name x pos) (tC v):=
 λ_ _ _ H _ I h=>g8 I hg hm ⟨v,H,I,r,h⟩ hd
theorem ib{u:Value}{pos:Pos}(hg:Gl X x)(hm:X.mg x=none)(hv:bootBuiltins x=some u)(r:bx v u)(hn:autoParam (x≠"__name__") zz1._auto_1)(hd:autoParam ((x==("__debug__":Str))=false) zz1._auto_1):PE X (.Name x pos) (tC v):=
 λ_ _ _ H _ I h=>eO I hg hm hv ⟨v,H,I,r,h⟩ hn hd
variable {a b:Expr}{ta tb:TE}{pos:Pos}
def PC(X:Cx)(op:CmpOp)(a b:Expr)(t:TE):Prop:=
 ∀(pins:Nw) (s:Nz) (σ:St) (H:Hp) (Q:VK),Inv X pins σ H s->t σ H Q ->
  wpAny (model X.prog X.w) X.A (eval a X.env) (λv s₁=>wpAny (model X.prog X.w) X.A (eval b X.env) (λu s₂=>wpAny (model X.prog X.w) X.A (compareOp op v u) (EP X pins σ Q) X.xe s₂) X.xe s₁) X.xe s
theorem DI(b:Expr){op:CmpOp}(h:op≠.In)(h2:op≠.NotIn):behindInMarks op b=false:=by
 have c:(op==CmpOp.In)=false:=by cases op<;>first | rfl | exact q0Q rfl h
 have a:(op==CmpOp.NotIn)=false:=by cases op<;>first | rfl | exact q0Q rfl h2
 cases b<;>simp[behindInMarks,c,a]
def tB(t:TE):TT:=λσ H Q=>t σ H λx H1=>∃c,x=.bl c/\Q c H1
theorem mH{op:CmpOp}{t:TE}(h:PC X op a b t)(h1:behindInMarks op b=false:=by first | exact DI _ nofun nofun | rfl):PT X (.Compare a [op] [b] pos) (tB t):=by
 intro e s σ H Q I hw;refine wpAny_isTrue_Compare1 (b6 (h e s σ H _ I hw) λv s1 h1=>b6 h1 λu s2 h2=>b6 h2 λc s3 ⟨x,H1,j,g,i⟩=>?_) h1;obtain⟨d,rfl,q⟩:=i;cases g;exact wpAny_truthy_bool ⟨H1,j,q⟩
variable {tA tB':TT}{cN:NL}
def F'(t u:TT):TT:=λσ H Q=>t σ H λc H1=>if c=true then u σ H1 Q else Q false H1
def JE(t u:TT):TT:=λσ H Q=>t σ H λc H1=>if c=true then Q true H1 else u σ H1 Q
def G1(t:TT):TT:=λσ H Q=>t σ H λc H1=>Q (!c) H1
theorem jk(ha:PT X a tA):PW X (.BoolOp .And [a] pos) tA:=by
 intro wh b s σ H Q I h;refine isTrue_and (b6 (ha b s σ H Q I h) λc s1 e=>?_);cases c with
 |true=>exact isTrue_and_nil e
 |false=>exact e
theorem gX(ha:PT X a tA):PW X (.BoolOp .Or [a] pos) tA:=by
 intro wh b s σ H Q I h;refine isTrue_or (b6 (ha b s σ H Q I h) λc s1 e=>?_);cases c with
 |false=>exact isTrue_or_nil e
 |true=>exact e
theorem iQ(ha:PT X a tA)(hb:PW X (.BoolOp .And (b::cN) pos) tB'):PW X (.BoolOp .And (a::b::cN) pos) (F' tA tB'):=by
 intro i d s σ H Q I h;refine isTrue_and (b6 (ha d s σ H _ I h) λc j ⟨H1,g,e⟩=>?_);cases c with
 |true=>exact hb i d j σ H1 Q g e
 |false=>exact⟨H1,g,e⟩
theorem il(ha:PT X a tA)(hb:PW X (.BoolOp .Or (b::cN) pos) tB'):PW X (.BoolOp .Or (a::b::cN) pos) (JE tA tB'):=by
 intro i d s σ H Q I h;refine isTrue_or (b6 (ha d s σ H _ I h) λc j ⟨H1,g,e⟩=>?_);cases c with
 |true=>exact⟨H1,g,e⟩
 |false=>exact hb i d j σ H1 Q g e
theorem dE(ha:PT X a tA):PT X (.UnaryOp .Not a pos) (G1 tA):=by
 intro b s σ H Q I h;exact isTrue_not (b6 (ha b s σ H (λc H1=>Q (!c) H1) I h) λ_ _ ⟨H1,d,q⟩=>⟨H1,d,q⟩)
def DP(ta tb:TE):TE:=λσ H Q=>ta σ H λx H1=>∃c,x=.bl c/\if c=true then tb σ H1 Q else Q (.bl false) H1
def Dc(ta:TE):TE:=λσ H Q=>ta σ H λx H1=>∃c,x=.bl c/\Q (.bl (!c)) H1
theorem uk{op}{t:TE}(h:PE X a t):PE X (.BoolOp op [a] pos) t:=λpins s σ H Q I hw=>BoolOp_one (h pins s σ H Q I hw)
theorem oH(ha:PE X a ta)(hb:PE X (.BoolOp .And (b::cN) pos) tb):PE X (.BoolOp .And (a::b::cN) pos) (DP ta tb):=by
 intro d s σ H Q I h;refine BoolOp_and (b6 (ha d s σ H _ I h) λv i ⟨x,H1,g,j,e⟩=>?_);obtain⟨c,rfl,e⟩:=e;cases j;refine wpAny_truthy_bool ?_;cases c with
 |true=>exact hb d i σ H1 Q g e
 |false=>exact⟨.bl false,H1,g,rfl,e⟩
theorem Ga(ha:PE X a ta):PE X (.UnaryOp .Not a pos) (Dc ta):=by
 intro b s σ H Q I h;refine UnaryOp_ (b6 (ha b s σ H _ I h) λv s1 ⟨x,H1,g,e,d⟩=>?_);obtain⟨c,rfl,d⟩:=d;cases e;exact not_of (wpAny_truthy_bool ⟨.bl (!c),H1,g,rfl,d⟩)
def Jh(t:TT)(ta tb:TE):TE:=λσ H Q=>t σ H λc H1=>if c=true then ta σ H1 Q else tb σ H1 Q
theorem DT(hc:PT X c tA)(ha:PE X a ta)(hb:PE X b tb):PE X (.IfExp c a b pos) (Jh tA ta tb):=by
 intro e s σ H Q I h;refine wpAny_IfExp (b6 (hc e s σ H _ I h) λd g ⟨H1,j,i⟩=>?_);cases d with
 |true=>exact ha e g σ H1 Q j i
 |false=>exact hb e g σ H1 Q j i
end
def aI(K:Nv)(H:Hp)(a:Addr)(xs:List V):Prop:=
 Rd H a (.lst xs) \/
  ∃(o:Obj) (its:Array Value) (n:Nat),K.lookup a=some o/\o.cls=.type "list"/\o.dict=none/\o.data=.seq its n/\its.size<=sizeLine/\bj xs its.toList
def cy(K:Nv)(H:Hp)(a:Addr)(xs:List V):Prop:=
 Rd H a (.tup xs) \/
  ∃(o:Obj) (its:Array Value) (n:Nat),K.lookup a=some o/\o.cls=.type "tuple"/\o.data=.seq its n/\its.size<=sizeLine/\bj xs its.toList
def Jg:Value->Option V
 | .none=>some .non
 | .bool b=>some (.bl b)
 | .int i _=>some (.int i)
 | .str x _=>some (.str x)
 | .bytes b _=>some (.byt b)
 | .float b _=>some (.flt b)
 | .ref a=>some (.ref a)
 | .type n=>some (.ty n)
 |_=>none
theorem bx.abs(r:bx x u):Jg u=some x:=by
 cases x with
 |non=>cases r;rfl
 |bl _=>cases r;rfl
 |int _=>obtain⟨t,rfl⟩:=r;rfl
 |str _=>obtain⟨t,rfl⟩:=r;rfl
 |byt _=>obtain⟨t,rfl⟩:=r;rfl
 |flt _=>obtain⟨t,rfl⟩:=r;rfl
 |ref _=>cases r;rfl
 |ty _=>cases r;rfl
theorem bx.inj(r:bx x u)(q:bx y u):x=y:=q0S (r.abs.symm.trans q.abs)
theorem bj.inj:∀{xs ys:List V} {us:NA},bj xs us->bj ys us->xs=ys
 |_,_,_,.nil,.nil=>rfl
 |_,_,_,.cons r t,.cons r' t'=>by rw[r.inj r',bj.inj t t']
section
variable {X:Cx}{pins:Nw}{σ:St}{H:Hp}{s:Nz}{a:Addr}{xs ys:List V}
theorem aI.of{K:Nv}(h:H a=some (.lst xs)):aI K H a xs:=.inl (.inl h)
theorem cy.of{K:Nv}(h:H a=some (.tup xs)):cy K H a xs:=.inl (.inl h)
theorem Inv.list(I:Inv X pins σ H s)(h:aI X.K H a xs):∃its:List Value,bj xs its/\PlainL s.heap a its.toArray/\xs.length<=sizeLine:=by
 rcases h with h | ⟨o,its,n,c,g,d,b,hz,r⟩
 ·obtain⟨z,its,n,r,e⟩:=h.ok I.hok
  exact⟨its,r,⟨_,n,e,rfl,rfl,rfl⟩,z⟩
 ·refine⟨its.toList,r,⟨o,n,I.kIn a o c,g,d,by simpa using b⟩,?_⟩
  have e:=r.length;simp only[Array.length_toList]at e;omega
theorem Inv.tuple(I:Inv X pins σ H s)(h:cy X.K H a xs):∃its:List Value,bj xs its/\IsTup s.heap a its.toArray/\xs.length<=sizeLine:=by
 rcases h with h | ⟨o,its,n,c,d,b,hz,r⟩
 ·obtain⟨z,its,r,p⟩:=h.ok I.hok
  exact⟨its,r,p,z⟩
 ·refine⟨its.toList,r,⟨o,I.kIn a o c,d,n,by simpa using b⟩,?_⟩
  have e:=r.length;simp only[Array.length_toList]at e;omega
theorem Inv.list_inj(I:Inv X pins σ H s)(h:aI X.K H a xs)(h':aI X.K H a ys):xs=ys:=by
 obtain⟨c,r,⟨o,n,e,_,_,d⟩,_⟩:=I.list h;obtain⟨b,j,⟨o',n',g,_,_,i⟩,_⟩:=I.list h';rw[e]at g;cases g
 rw[d]at i
 injection i with d1 _
 have:c=b:=by simpa using q0R Array.toList d1
 subst this;exact r.inj j
theorem Inv.tuple_inj(I:Inv X pins σ H s)(h:cy X.K H a xs)(h':cy X.K H a ys):xs=ys:=by
 obtain⟨c,r,⟨o,e,_,n,d⟩,_⟩:=I.tuple h;obtain⟨b,j,⟨o',g,_,n',i⟩,_⟩:=I.tuple h';rw[e]at g;cases g
 rw[d]at i
 injection i with d1 _
 have:c=b:=by simpa using q0R Array.toList d1
 subst this;exact r.inj j
end
abbrev Cx.wish(X:Cx)(E:Nu):Cx:={X with xe:=E}
abbrev Cx.nox(X:Cx):Cx:=X.wish λ_ _=>False
theorem Cx.Ok.wish{X:Cx}(ok:X.Ok)(E:Nu):(X.wish E).Ok:=
 ⟨ok.mod,ok.kind,ok.glob,ok.blt,ok.above,ok.inj,ok.has,ok.cab,ok.hd,ok.frames,ok.stk,ok.exf,ok.bs,ok.bsz,ok.noex,ok.exfs,ok.funs,ok.frf⟩
theorem Cx.Ok.unwish{X:Cx}(ok:(X.wish E).Ok):X.Ok:=
 ⟨ok.mod,ok.kind,ok.glob,ok.blt,ok.above,ok.inj,ok.has,ok.cab,ok.hd,ok.frames,ok.stk,ok.exf,ok.bs,ok.bsz,ok.noex,ok.exfs,ok.funs,ok.frf⟩
section
variable {X:Cx}{pins:Nw}{σ:St}{H:Hp}{s:Nz}{E:Nu}
theorem Inv.wish(I:Inv X pins σ H s)(E:Nu):Inv (X.wish E) pins σ H s:=⟨I.ok.wish E,I.os,I.bare,I.base,I.loc,I.cell,I.free,I.freeC,I.pin,I.hok,I.len⟩
theorem Inv.unwish(I:Inv (X.wish E) pins σ H s):Inv X pins σ H s:=⟨I.ok.unwish,I.os,I.bare,I.base,I.loc,I.cell,I.free,I.freeC,I.pin,I.hok,I.len⟩
theorem SP.unwish{f:Flow}(h:SP (X.wish E) pins D f s'):SP X pins D f s':=by
 cases f with
 |next=>obtain⟨σ',a,I,q⟩:=h;exact⟨σ',a,I.unwish,q⟩
 |brk=>obtain⟨σ',a,I,q⟩:=h;exact⟨σ',a,I.unwish,q⟩
 |cont=>obtain⟨σ',a,I,q⟩:=h;exact⟨σ',a,I.unwish,q⟩
 |ret u=>obtain⟨v,σ',a,I,r,q⟩:=h;exact⟨v,σ',a,I.unwish,r,q⟩
theorem vb.nox{st:List Stmt}{t:TS}(h:vb X.nox st t):vb X st t:=λpins s σ H D I hw=>
 q0W (h pins s σ H D (I.wish _) hw) (λ_ _ q=>q.unwish) λ_ _ z=>False.elim z
end
section
variable {X:Cx}{st:Stmt}{cN:List Stmt}{t u:TS}{e:Expr}{te:TE}{pos:Pos}
def Dl:TS:=λD σ H=>D.nx σ H
def AY(t u:TS):TS:=λD σ H=>t {D with nx:=u D} σ H
theorem aO:vb X [] Dl:=λ_ _ σ H _ I h=>wpAny_execs_nil ⟨σ,H,I,h⟩
theorem ad(h1:PS X st t)(h2:vb X cN u):vb X (st::cN) (AY t u):=by
 intro a s σ H D I h;refine wpAny_execs_cons (b6 (h1 a s σ H {D with nx:=u D} I h) λf b q=>?_);cases f with
 |next=>
  obtain⟨σ',d,c,q⟩:=q;exact h2 a b σ' d D c q
 |ret v=>exact q
 |brk=>exact q
 |cont=>exact q
theorem ai(h1:PS X st t):vb X [st] t:=by
 intro a s σ H D I h;refine wpAny_execs_cons (b6 (h1 a s σ H D I h) λf s1 q=>?_);cases f with
 |next=>exact wpAny_execs_nil q
 |ret v=>exact q
 |brk=>exact q
 |cont=>exact q
theorem Inv.quiet{pins:Nw}{σ:St}(I:Inv X pins σ H s):interactive X.env=false:=by simp[interactive,I.ok.kind]
def BS(te:TE):TS:=λD σ H=>te σ H λ_ H1=>D.nx σ H1
theorem ba(he:PE X e te)(hs:autoParam (swapsWith e none pos.line X.env=pure false) zz0._auto_1):PS X (.Expr e pos) (BS te):=by
 intro a s σ H D I h;exact wpAny_Expr_any (b6 (he a s σ H _ I h) λv s1 ⟨x,H1,c,r1,b⟩=>⟨σ,H1,c,b⟩) I.quiet hs
def GT(te:TE):TS:=λD σ H=>te σ H D.rt
theorem aG(he:PE X e te):PS X (.Return (some e) pos) (GT te):=by
 intro a s σ H D I h;exact wpAny_Return_some (b6 (he a s σ H _ I h) λv s1 ⟨x,H1,d,b,c⟩=>⟨x,σ,H1,d,b,c⟩)
def DA:TS:=λD _ H=>D.rt .non H
theorem u5:PS X (.Return none pos) DA:=λ_ _ σ H _ I h=>wpAny_Return_none ⟨.non,σ,H,I,rfl,h⟩
def zU(c:TT)(t u:TS):TS:=λD σ H=>c σ H λb H1=>if b=true then t D σ H1 else u D σ H1
theorem bB{tc:TT}(hc:PT X c tc)(ha:vb X a t)(hb:vb X b u):PS X (.If c a b pos) (zU tc t u):=by
 intro e s σ H D I h;refine wpAny_If (b6 (hc e s σ H _ I h) λd g ⟨H1,j,i⟩=>?_);cases d with
 |true=>exact ha e g σ H1 D j i
 |false=>exact hb e g σ H1 D j i
end
abbrev TG:=V->St->Hp->(St->Hp->Prop)->Prop
abbrev D2:=List V->St->Hp->(St->Hp->Prop)->Prop
def PG(X:Cx)(target:Expr)(t:TG):Prop:=
 ∀(pins:Nw) (s:Nz) (σ:St) (H:Hp) (v:V) (u:Value) (Q:St->Hp->Prop),Inv X pins σ H s->bx v u->t v σ H Q ->
  wpAny (model X.prog X.w) X.A (assign target X.env u) (λ_ s'=>SN X pins Q s') X.xe s
def Ht(X:Cx)(ts:NL)(t:D2):Prop:=
 ∀(pins:Nw) (s:Nz) (σ:St) (H:Hp) (vs:List V) (us:NA) (Q:St->Hp->Prop),Inv X pins σ H s->bj vs us->t vs σ H Q ->
  wpAny (model X.prog X.w) X.A (assignInOrder ((assignEach ts X.env).map (·.2)) us) (λ_ s'=>SN X pins Q s') X.xe s
section
variable {X:Cx}{pos:Pos}
def jN(i:Nat):TG:=λv σ H Q=>Q (σ.set i (some v)) H
theorem au{i:Nat}{x:Str}(hN:X.N.Nodup)(hi:X.N[i]?=some x)(hx:Loc X.env.scope x)(hf:autoParam (X.fn x=true\/X.env.scope.names.lookup x=some .local) zz3._auto_1):PG X (.Name x pos) (jN i):=by
 intro pins s σ H v u Q I r h;exact wpAny_assign_Name (li I hN hi hx r (λs' a=>⟨_,H,a,h⟩) hf)
theorem q02(i:Nat){x:Str}(hN:X.N.Nodup)(hi:autoParam (X.N[i]?=some x) zz0._auto_1)(hx:autoParam (Loc X.env.scope x) zzl._auto_1)(hf:autoParam (X.fn x=true\/X.env.scope.names.lookup x=some .local) zz3._auto_1):PG X (.Name x pos) (jN i):=au hN hi hx hf
def Eh:D2:=λvs σ H Q=>vs=[]/\Q σ H
def zy(t:TG)(u:D2):D2:=λvs σ H Q=>∃v r,vs=v::r/\t v σ H λσ' H'=>u r σ' H' Q
theorem du:Ht X [] Eh:=by
 intro pins s σ H vs us Q I r h;obtain⟨e,h⟩:=h;subst e;cases r;exact assignInOrder_nil ⟨σ,H,I,h⟩
theorem aU{e:Expr}{es:NL}{t:TG}(h1:PG X e t)(h2:Ht X es u)
  (hs:autoParam ((assignEach (e::es) X.env).map (·.2)=assign e X.env::(assignEach es X.env).map (·.2)) zz0._auto_1):Ht X (e::es) (zy t u):=by
 intro a s σ H vs us Q I r h;obtain⟨v,vr,d,h⟩:=h;subst d;cases r with
 |cons r rr=>
  rw[hs];refine assignInOrder_cons (b6 (h1 a s σ H _ _ _ I r h) λ_ b ⟨σ1,H1,g,c⟩=>?_);exact h2 a b σ1 H1 _ _ Q g rr c
def yU(K:Nv)(n:Nat)(t:D2):TG:=λv σ H Q=>∃a xs,v=.ref a/\cy K H a xs/\xs.length=n/\t xs σ H Q
theorem yv{es:NL}{t:D2}{n:Nat}(hc:X.calm=true)(h:Ht X es t)
  (hn:autoParam ((assignEach es X.env).length=n) zz0._auto_1) (hst:autoParam ((assignEach es X.env).findIdx? (·.1)=none) zz0._auto_1):PG X (.Tuple es k pos) (yU X.K n t):=by
 intro c s σ H v u Q I r d;obtain⟨a,i,w,m,p,d⟩:=d;subst w;cases r;obtain⟨its,g,l,hz⟩:=I.tuple m;refine assign_Tuple_tuple (I.ok.hd hc) l (by simp[hn,<- p,g.length]) hst λq j=>?_;have x:Inv X c σ H {s with heap:=q }:=I.kept (t':=s.toks) λb o e=>j b o (MU (M4 e)) e;exact h c _ σ H i _ Q x (by simpa using g) d
def A4(te:TE)(g:TG):TS:=λD σ H=>te σ H λx H1=>g x σ H1 D.nx
theorem yw{tg:Expr}{te:TE}(he:PE X e te)(hg:PG X tg g)(hs:autoParam (swapsWithSole [tg] e pos.line X.env=pure false) zz0._auto_1)(hw:autoParam (swappedStores [tg] e X.env=pure none) zz0._auto_1)
  (h1:autoParam ((assignEach [tg] X.env).map (·.2)=[assign tg X.env]) zz0._auto_1):PS X (.Assign [tg] e pos) (A4 te g):=by
 intro a s σ H D I h;refine wpAny_Assign_stores (b6 (he a s σ H _ I h) λv b ⟨x,H1,i,c,d⟩=>?_) hs hw;rw[h1];exact b6 (hg a b σ H1 x v _ i c d) λ_ s2 q=>q
theorem aE{i:Nat}{x:Str}{te:TE}{pos':Pos}(hN:X.N.Nodup)(hi:X.N[i]?=some x)(hx:Loc X.env.scope x)(he:PE X e te)(hs:autoParam (swapsWith e (some (.Name x pos')) pos.line X.env=pure false) zz0._auto_1)(hf:autoParam (X.fn x=true\/X.env.scope.names.lookup x=some .local) zz3._auto_1) :
  PS X (.Assign [.Name x pos'] e pos) (A4 te (jN i)):=by
 intro a s σ H D I h;refine wpAny_Assign_Name (b6 (he a s σ H _ I h) λv s1 ⟨y,H1,g,b,c⟩=>?_) hs;exact li g hN hi hx b (λs2 d=>⟨_,H1,d,c⟩) hf
theorem q01(i:Nat){x:Str}{e:Expr}{te:TE}{pos':Pos}(hN:X.N.Nodup)(he:PE X e te)(hi:autoParam (X.N[i]?=some x) zz0._auto_1)(hx:autoParam (Loc X.env.scope x) zzl._auto_1)(hs:autoParam (swapsWith e (some (.Name x pos')) pos.line X.env=pure false) zz0._auto_1)(hf:autoParam (X.fn x=true\/X.env.scope.names.lookup x=some .local) zz3._auto_1):
  PS X (.Assign [.Name x pos'] e pos) (A4 te (jN i)):=aE hN hi hx he hs hf
def xx(c:TT)(tb:TS):TS:=λD σ H=>∃W:Nat->St->Hp->Prop,(∃m,W m σ H)/\∀m σ H,W m σ H ->
 c σ H λb H1=>if b=true then ∃N:St->Hp->Prop,(∀σ' H',N σ' H'->∃m',m'<m/\W m' σ' H')/\tb {D with nx:=N,ct:=N,bk:=D.nx} σ H1 else D.nx σ H1
theorem DZ{body:List Stmt}{tc:TT}(hp:PassesOwn (model X.prog X.w) X.A X.env X.xe)(hc:PT X c tc)(hb:vb X body tb):PS X (.While c body [] pos) (xx tc tb):=by
 intro a s σ H D I h;obtain⟨W,⟨m0,r⟩,turn⟩:=h;refine wpAny_While (codeAny_whileLoop (λn x=>SN X a (W n) x) ?_ m0 ⟨σ,H,I,r⟩);rintro n w ⟨σ1,H1,y,q⟩;refine wpAny_passesOwn hp (b6 (hc a w σ1 H1 _ y (turn n σ1 H1 q)) λb u ⟨H2,p,g⟩=>?_);cases b with
 |true=>
  obtain⟨N,o,g⟩:=g;rw[q07 rfl];refine wpAny_passesOwn hp (b6 (hb a u σ1 H2 _ p g) λf s3 e=>?_);cases f with
  |next=>
   obtain⟨σ3,d,m,j⟩:=e;obtain⟨k,l,i⟩:=o σ3 d j;exact⟨k,l,σ3,d,m,i⟩
  |cont=>
   obtain⟨σ3,d,m,j⟩:=e;obtain⟨k,l,i⟩:=o σ3 d j;exact⟨k,l,σ3,d,m,i⟩
  |brk=>exact e
  |ret v=>exact e
 |false=>
  rw[q06 M3];exact wpAny_execs_nil ⟨σ1,H2,p,g⟩
end
structure It where
 go:Nat->Hp->Prop
 yld:Nat->Hp->V->Hp->Prop
 stop:Nat->Hp->Prop
def nQ(X:Cx)(pins:Nw)(H:Hp)(b:Addr):Prop:=
 H b=none/\b≠X.env.locals/\b∉X.fs/\(b∈X.ex\/X.s₀.heap.objs.size<=b)/\(∀x c,X.env.cells.lookup x=some c->c≠b)/\∀p∈X.pn++pins,p.1≠b
theorem Inv.fpOk{pins:Nw}{σ:St}{H':Hp}{b:Addr}(I:Inv X pins σ H s)(hb:s.heap.objs.size<=b)(hn:H' b=none):nQ X pins H' b:=by
 refine⟨hn,Nat.ne_of_gt (MT I.lt hb),I.nofs hb,.inr (M9 I.sz hb),λx c e z=>?_,λp a z=>?_⟩
 ·obtain⟨v,q⟩:=I.cell x c e
  exact q0Q (MT q.lt (by rw[z];exact hb)) (M_ _)
 ·exact q0Q (MT (M4 (I.pin p a).1) (by rw[z];exact hb)) (M_ _)
structure uJ(P:NF)(w:NJ)(K:Nv)(tg:Expr)(J:It)(fp:NC)(it:Addr)(tn:Nat->Heap->Prop):Prop where
 mem:it∈fp
 obj:∀i h,tn i h->∀b∈fp,∃o,h.get? b=some o/\∀v,o.data≠.cell v
 keep:∀i h h',tn i h->(∀b∈fp,∀o,h.get? b=some o->h'.get? b=some o)->tn i h'
 item:∀(X:Cx),X.prog=P->X.w=w->X.K=K->X.calm=true->∀(i:Nat) (pins:Nw) (s:Nz) (σ:St) (H:Hp) (E:Nu),Inv X pins σ H s->(∀b∈fp,nQ X pins H b)->tn i s.heap->J.go i H ->
  wpAny (model P w) X.A (pyNext (.ref it)) (λr s1=>∃u,r=some u /\
   wpAny (model P w) X.A (letOwnedTupleGo tg (.ref it) u) (λ_ s2=>∃x H',Inv X pins σ H' s2/\bx x u/\J.yld i H x H'/\tn (i+1) s2.heap/\∀b∈fp,H' b=none) E s1) E s
 done:∀(X:Cx),X.prog=P->X.w=w->X.K=K->X.calm=true->∀(i:Nat) (pins:Nw) (s:Nz) (σ:St) (H:Hp) (E:Nu),Inv X pins σ H s->(∀b∈fp,nQ X pins H b)->tn i s.heap->J.stop i H ->
  wpAny (model P w) X.A (pyNext (.ref it)) (λr s1=>r=none/\Inv X pins σ H s1) E s
 self:∀(A:NH) (i:Nat) (s:Nz) (Q:Nu) (E:Nu),tn i s.heap->Q (.ref it) s->wpAny (model P w) A (pyIter (.ref it)) Q E s
abbrev TI:=St->Hp->(It->Hp->Prop)->Prop
def JN(X:Cx)(pins:Nw)(σ:St)(tg:Expr)(R:It->Hp->Prop)(itv:Value)(s2:Nz):Prop:=
 ∃(it:Addr) (fp:NC) (tn:Nat->Heap->Prop) (J:It) (H':Hp),itv=.ref it/\Inv X pins σ H' s2/\uJ X.prog X.w X.K tg J fp it tn/\tn 0 s2.heap/\(∀b∈fp,nQ X pins H' b)/\R J H'
def PI(X:Cx)(tg iter:Expr)(wi:TI):Prop:=
 ∀(pins:Nw) (s:Nz) (σ:St) (H:Hp) (R:It->Hp->Prop),Inv X pins σ H s->wi σ H R ->
  wpAny (model X.prog X.w) X.A (eval iter X.env) (λv s1=>wpAny (model X.prog X.w) X.A (pyIter v) (JN X pins σ tg R) X.xe s1) X.xe s
theorem v7{s:Nz}{tg:Expr}{it:Addr}{u:Value}{o:Obj}{Q:Unit->Shared->Prop}(ho:s.heap.get? it=some o)(hc:o.cls=.type n)(hd:o.data=.fields vs)
  (hn:["enumerate","zip","dict_itemiterator","dict_reverseitemiterator","odict_iterator","itertools.zip_longest","itertools.pairwise"].contains n=false) (hQ:Q () s):wpAny M A (letOwnedTupleGo tg (.ref it) u) Q E s:=by
 unfold letOwnedTupleGo;cases tg<;>first
  |exact q05 hQ
  | (cases u<;>first
    |exact q05 hQ
    | (refine q04 (wpAny_load ho ?_)
       rw[hc,hd];show wpAny M A (if(["enumerate","zip","dict_itemiterator","dict_reverseitemiterator","odict_iterator","itertools.zip_longest","itertools.pairwise"].contains n&&vs[0]?==some (rawInt _))=true then _ else _) Q E s;rw[q06 (by intro h;rw[hn,Bool.false_and]at h;cases h)];exact q05 hQ))
def AX(K:Nv)(a:Addr):It:=
 ⟨λi H=>∃xs x,aI K H a xs/\xs[i]?=some x,λi H x H'=>H'=H/\∀xs,aI K H a xs->xs[i]?=some x,λi H=>∃xs,aI K H a xs/\xs.length<=i⟩
def Hs(K:Nv)(a:Addr):It:=
 ⟨λi H=>∃xs x,cy K H a xs/\xs[i]?=some x,λi H x H'=>H'=H/\∀xs,cy K H a xs->xs[i]?=some x,λi H=>∃xs,cy K H a xs/\xs.length<=i⟩
def Af(lo:Int)(n:Nat):It:=⟨λi _=>i<n,λi H x H'=>H'=H/\x=.int (lo+i),λi _=>n<=i⟩
theorem Ax{K:Nv}{tg:Expr}(a it:Addr):uJ P w K tg (AX K a) [it] it (λi h=>h.IsListIter it a i) where
 mem:=by simp
 obj:=λi h g b l=>by
  have e:b=it:=by simpa using l
  subst e;obtain⟨o,e,c,d⟩:=g;exact⟨o,e,λv z=>by rw[d]at z;cases z⟩
 keep:=λi h n g k=>g.at λo e=>k it (by simp) o e
 item:=by
  intro X C B D R i j s σ H E I hf g hg;subst C B D;obtain⟨S,x,m,y⟩:=hg;obtain⟨r,q,p,Y⟩:=I.list m;obtain⟨u,hu,U⟩:=q.get y;obtain⟨O,M,f2,L,J,G⟩:=hf it (by simp);refine wpAny_pyNext_list_item g p.isList (x:=u) (by simpa using hu) λn st' T=>?_;have I1:Inv X j σ H {s with heap:=n }:=I.turned (t':=s.toks) (λb o l e=>(T.2 b l).trans e) O M L J G;obtain⟨o,e,c,d⟩:=id st';exact⟨u,rfl,v7 (s:={s with heap:=n }) e c d nofun ⟨x,H,I1,U,⟨rfl,λys Z=>by rw[I.list_inj Z m];exact y⟩,st',λb l=>(hf b l).1⟩⟩
 done:=by
  intro X C B D R i j s σ H E I hf g hg;subst C B D;obtain⟨S,m,y⟩:=hg;obtain⟨r,q,p,Y⟩:=I.list m;obtain⟨O,M,f2,L,J,G⟩:=hf it (by simp);have hl:=q.length;exact wpAny_pyNext_list_end (I.ok.hd R) g p.isList (by simp;omega) λn eb=>⟨rfl,I.turned (t':=s.toks) (λb o l e=>eb b o l e) O M L J G⟩
 self:=λ_ _ _ _ _ g h=>wpAny_pyIter_listiter g h
theorem xk{K:Nv}{tg:Expr}(a it:Addr):uJ P w K tg (Hs K a) [it] it (λi h=>h.IsTupleIter it a i) where
 mem:=by simp
 obj:=λi h g b m=>by
  have e:b=it:=by simpa using m
  subst e;obtain⟨o,e,c,d⟩:=g;exact⟨o,e,λv z=>by rw[d]at z;cases z⟩
 keep:=λi h q g k=>g.at λo e=>k it (by simp) o e
 item:=by
  intro X C B D R i j s σ H E I hf g hg;subst C B D;obtain⟨S,x,n,y⟩:=hg;obtain⟨l,r,p,Y⟩:=I.tuple n;obtain⟨u,hu,U⟩:=r.get y;obtain⟨O,M,f2,L,J,G⟩:=hf it (by simp);refine wpAny_pyNext_tuple_item g (show s.heap.IsTuple a l.toArray from p) (x:=u) (by simpa using hu) λq st' T=>?_;have I1:Inv X j σ H {s with heap:=q }:=I.turned (t':=s.toks) (λb o m e=>(T.2 b m).trans e) O M L J G;obtain⟨o,e,c,d⟩:=id st';exact⟨u,rfl,v7 (s:={s with heap:=q }) e c d nofun ⟨x,H,I1,U,⟨rfl,λys Z=>by rw[I.tuple_inj Z n];exact y⟩,st',λb m=>(hf b m).1⟩⟩
 done:=by
  intro X C B D R i j s σ H E I hf g hg;subst C B D;obtain⟨S,n,y⟩:=hg;obtain⟨l,r,p,Y⟩:=I.tuple n;obtain⟨O,M,f2,L,J,G⟩:=hf it (by simp);have hl:=r.length;exact wpAny_pyNext_tuple_end (I.ok.hd R) g (show s.heap.IsTuple a l.toArray from p) (by simp;omega) λq eb=>⟨rfl,I.turned (t':=s.toks) (λb o m e=>eb b o m e) O M L J G⟩
 self:=λ_ _ _ _ _ g h=>wpAny_pyIter_tupleiter g h
theorem yB{K:Nv}{tg:Expr}(it:Addr)(lo:Int)(n:Nat):uJ P w K tg (Af lo n) [it] it (λi h=>IsRangeIter h it (lo+(i:Nat)*1) ((n:Int)-(i:Nat)) 1) where
 mem:=by simp
 obj:=λi h a b d=>by
  have e:b=it:=by simpa using d
  subst e;exact⟨_,a,λv z=>by
   have C:Data.fields _=Data.cell v:=z;cases C⟩
 keep:=λi h g a k=>k it (by simp) _ a
 item:=by
  intro X m j p l i c s σ H E I hf a hg;subst m j p;obtain⟨y,x,J,u,r,q⟩:=hf it (by simp);have W:=Walks.range (prog:=X.prog) (w:=X.w) (I.ok.hd l) it lo 1 n;refine W.item i s _ _ hg a λv g B G st' D=>?_;obtain⟨t,rfl⟩:=G;have M:Inv X c σ H {s with heap:=g,toks:=B}:=I.turned (λb o d e=>D b o (by simpa using d) e) y x u r q;refine⟨_,rfl,v7 (s:={s with heap:=g,toks:=B}) (n:="range_iterator") st' rfl rfl nofun ⟨.int (lo+i),H,M,⟨t,?_⟩,⟨rfl,rfl⟩,st',λb d=>(hf b d).1⟩⟩;rw[Int.mul_one]
 done:=by
  intro X m j p l i c s σ H E I hf a hg;subst m j p;obtain⟨y,x,J,u,r,q⟩:=hf it (by simp);exact wpAny_pyNext_range_end (I.ok.hd l) a (by have:n<=i:=hg;omega) λg L=>⟨rfl,I.turned (t':=s.toks) (λb o d e=>L b o d e) y x u r q⟩
 self:=λ_ _ _ _ _ a h=>wpAny_pyIter_rangeiter a h
section
variable {X:Cx}{tg:Expr}
def CO(K:Nv)(tl:TE):TI:=λσ H R=>tl σ H λx H1=>∃a,x=.ref a/\(∃xs,aI K H1 a xs)/\R (AX K a) H1
def Hb(K:Nv)(tl:TE):TI:=λσ H R=>tl σ H λx H1=>∃a,x=.ref a/\(∃xs,cy K H1 a xs)/\R (Hs K a) H1
theorem tX{tl:TE}(hl:PE X l tl):PI X tg l (CO X.K tl):=by
 intro c s σ H R I h;refine b6 (hl c s σ H _ I h) λv d ⟨x,H1,g,i,j⟩=>?_;obtain⟨a,e,⟨xs,k⟩,q⟩:=j;subst e;cases i;obtain⟨its,rv,p,hz⟩:=g.list k;refine wpAny_pyIter_list p.isList ?_;refine⟨d.heap.objs.size,[d.heap.objs.size],_,_,H1,rfl,g.kept (t':=d.toks) λb o e=>Mx _ e,Ax a _,⟨_,ME _ rfl,rfl,rfl⟩,λb m=>?_,q⟩;have e:b=d.heap.objs.size:=by simpa using m
 subst e;exact g.fpOk (MY _) (g.hok.fresh (MY _))
theorem Gg{tl:TE}(hl:PE X l tl):PI X tg l (Hb X.K tl):=by
 intro d s σ H R I h;refine b6 (hl d s σ H _ I h) λv c ⟨x,H1,g,j,k⟩=>?_;obtain⟨a,e,⟨xs,m⟩,q⟩:=k;subst e;cases j;obtain⟨i,rv,p,hz⟩:=g.tuple m;refine wpAny_pyIter_tuple (show c.heap.IsTuple a i.toArray from p) ?_;refine⟨c.heap.objs.size,[c.heap.objs.size],_,_,H1,rfl,g.kept (t':=c.toks) λb o e=>Mx _ e,xk a _,⟨_,ME _ rfl,rfl,rfl⟩,λb n=>?_,q⟩;have e:b=c.heap.objs.size:=by simpa using n
 subst e;exact g.fpOk (MY _) (g.hok.fresh (MY _))
theorem wQ{pins:Nw}{σ:St}{s:Nz}{R:It->Hp->Prop}{E:Nu}{lo hi:Int}{t u v:Tok}{tk:Nat}(I:Inv X pins σ H s)(h1:-(2 ^ 62)<=lo)(h2:lo<2 ^ 62)(h3:-(2 ^ 62)<=hi)(h4:hi<2 ^ 62)
  (q:R (Af lo (hi-lo).toNat) H):wpAny (model X.prog X.w) X.A (pyIter (.ref s.heap.objs.size)) (JN X pins σ tg R) E {s with heap:=s.heap.push {cls:=.type "range",data:=.fields #[.int lo t,.int hi u,.int 1 v]},toks:=tk}:=by
 refine wpAny_pyIter_range (IsRange.new ..) (small_one h1 h2 h3 h4) ?_;have a:Inv X pins σ H {s with heap:=s.heap.push {cls:=.type "range",data:=.fields #[.int lo t,.int hi u,.int 1 v]},toks:=tk}:=I.kept λb o e=>Mx _ e;refine⟨(s.heap.push {cls:=.type "range",data:=.fields #[.int lo t,.int hi u,.int 1 v]}).objs.size,[(s.heap.push {cls:=.type "range",data:=.fields #[.int lo t,.int hi u,.int 1 v]}).objs.size],_,_,H,rfl,
  a.kept (t':=tk) λb o e=>Mx _ e,yB _ lo (hi-lo).toNat,?_,λb c=>?_,q⟩
 ·have g:lo+((0:Nat):Int)*1=lo:=by simp
  have d:(((hi-lo).toNat:Nat):Int)-((0:Nat):Int)=Builtin.Range.rangeSize lo hi 1:=by rw[rangeSize_one];split<;>omega
  show IsRangeIter _ _ (lo+((0:Nat):Int)*1) ((((hi-lo).toNat:Nat):Int)-((0:Nat):Int)) 1;rw[g,d];exact ME _ rfl
 ·have e:b=(s.heap.push {cls:=.type "range",data:=.fields #[.int lo t,.int hi u,.int 1 v]}).objs.size:=by simpa using c
  subst e;exact a.fpOk (MY _) (a.hok.fresh (MY _))
def wI(ta:TA):TI:=λσ H R=>ta σ H λvs H1=>∃j:Int,vs=[.int j]/\-(2 ^ 62)<=j/\j<2 ^ 62/\R (Af 0 j.toNat) H1
def Cu(ta:TA):TI:=λσ H R=>ta σ H λvs H1=>∃i j:Int,vs=[.int i,.int j]/\(-(2 ^ 62)<=i/\i<2 ^ 62/\-(2 ^ 62)<=j/\j<2 ^ 62)/\R (Af i (j-i).toNat) H1
theorem rE{a:Expr}{ta:TA}{p pos:Pos}(hg:Gl X "range")(hm:X.mg "range"=none)(ha:PA X [a] ta)(hs:autoParam (starEach [a] X.env=[(false,eval a X.env)]) zz0._auto_1):PI X tg (.Call (.Name "range" p) [a] [] pos) (wI ta):=by
 intro b s σ H R I h;refine Call_ (eO I hg hm boot_range (PyProof.Rows.callWith_type1 (b6 (ha pos b s σ H _ I h) λus s1 ⟨vs,H1,i,d,c⟩=>?_) hs rfl));obtain⟨j,e,c,g,q⟩:=c;subst e;cases d with
 |cons r rr=>
  cases rr;obtain⟨t,rfl⟩:=r;exact call_range_1 (wQ i ⋯ ⋯ c g (by simpa using q))
theorem jd{a b:Expr}{ta:TA}{p pos:Pos}(hg:Gl X "range")(hm:X.mg "range"=none)(ha:PA X [a,b] ta)(hs:autoParam (starEach [a,b] X.env=[(false,eval a X.env),(false,eval b X.env)]) zz0._auto_1)(hs2:autoParam (starEach [b] X.env=[(false,eval b X.env)]) zz0._auto_1) :
  PI X tg (.Call (.Name "range" p) [a,b] [] pos) (Cu ta):=by
 intro c s σ H R I h;refine Call_ (eO I hg hm boot_range (PyProof.Rows.callWith_type1 (b6 (ha pos c s σ H _ I h) λus s1 ⟨vs,H1,n,g,d⟩=>?_) (by rw[hs,hs2]) (by rw[hs2];rfl)));obtain⟨i,j,e,⟨d,m,l,k⟩,q⟩:=d;subst e;cases g with
 |cons r rr=>
  cases rr with
  |cons r' rr=>
   cases rr;obtain⟨t,rfl⟩:=r;obtain⟨t',rfl⟩:=r';exact call_range_2 (wQ n d m l k q)
def Jv(wi:TI)(g:TG)(tb:TS):TS:=λD σ H=>wi σ H λJ H1=>∃W:Nat->Nat->St->Hp->Prop,(∃m,W 0 m σ H1)/\∀i m σ H,W i m σ H ->
 (J.stop i H/\D.nx σ H)\/(J.go i H/\∃N:St->Hp->Prop,(∀σ' H',N σ' H'->∃m',m'<m/\W (i+1) m' σ' H')/\∀x H',J.yld i H x H'->g x σ H' λσ2 H2=>tb {D with nx:=N,ct:=N,bk:=D.nx} σ2 H2)
def oo(fp:NC)(h:Heap):List (Addr×Obj):=fp.filterMap λb=>(h.get? b).map λo=>(b,o)
theorem gU{fp:NC}{h:Heap}{b:Addr}{o:Obj}(hb:b∈fp)(e:h.get? b=some o):(b,o)∈oo fp h:=List.mem_filterMap.mpr ⟨b,hb,by rw[e];rfl⟩
theorem An{fp:NC}{p:Addr×Obj}(hp:p∈oo fp h):p.1∈fp/\h.get? p.1=some p.2:=by
 obtain⟨b,a,e⟩:=List.mem_filterMap.mp hp;cases q:h.get? b with
 |none=>rw[q]at e;cases e
 |some o=>
  rw[q]at e;have c:(b,o)=p:=q0S e;subst c;exact⟨a,q⟩
theorem Inv.pinned{pins:Nw}{σ:St}{fp:NC}(I:Inv X pins σ H s)(hf:∀b∈fp,nQ X pins H b)(ho:∀b∈fp,∃o,s.heap.get? b=some o/\∀v,o.data≠.cell v):Inv X (pins++oo fp s.heap) σ H s:=
 I.pins_of λp hp=>(MO.mp hp).elim (λz=>I.pin p (q0C _ z)) λz=>by
  obtain⟨hb,e⟩:=An z;obtain⟨f0,f1,f2,_⟩:=hf p.1 hb;obtain⟨o,e',d⟩:=ho p.1 hb;rw[e]at e';cases e'
  exact⟨e,f0,f1,f2,d⟩
theorem Inv.unpinned{pins pl:Nw}{σ:St}(I:Inv X (pins++pl) σ H s):Inv X pins σ H s:=I.pins_of λp hp=>I.pin p (q0C _ (q0D _ hp))
theorem G5{iter:Expr}{body:List Stmt}{wi:TI}{pos:Pos}(hp:PassesOwn (model X.prog X.w) X.A X.env X.xe)(hc:X.calm=true)(hi:PI X tg iter wi)(hg:PG X tg g)(hb:vb X body tb)
  (hs:autoParam (∀x,foldedSetIterable iter X.env x=pure x) zz4._auto_1):PS X (.For tg iter body [] pos) (Jv wi g tb):=by
 intro a s σ H D I h;refine wpAny_For (b6 (hi a s σ H _ I h) λv s1 h1=>b6 h1 λitv s2 h2=>?_) hs;obtain⟨it,C,S,J,H2,e,I2,T,L,f2,W,⟨m0,w0⟩,turn⟩:=h2;subst e
 -- what stays true of the iterator's objects through the loop
 have c:∀{H':Hp},(∀b∈C,H' b=none)->∀b∈C,nQ X a H' b:=λhn b hb=>⟨hn b hb,(f2 b hb).2⟩;refine codeAny_forLoop_any (λn Z=>∃i σ' H',Inv X a σ' H' Z/\S i Z.heap/\(∀b∈C,H' b=none)/\W i n σ' H') ?_ m0 ⟨0,σ,H2,I2,L,λb hb=>(f2 b hb).1,w0⟩;rintro n Y ⟨i,σ3,G,I3,y,B,w3⟩;rcases turn i n σ3 G w3 with⟨w,qn⟩ | ⟨go,N,hN,step⟩
 ·refine wpAny_passesOwn hp (b6 (T.done X rfl rfl rfl hc i a Y σ3 G X.xe I3 (c B) y w) λr s4 ⟨hr,I4⟩=>?_)
  subst hr;exact wpAny_execs_nil ⟨σ3,G,I4,qn⟩
 ·refine wpAny_passesOwn hp (b6 (T.item X rfl rfl rfl hc i a Y σ3 G X.xe I3 (c B) y go) λr s4 ⟨u,hr,h4⟩=>?_)
  subst hr;refine wpAny_passesOwn hp (b6 h4 λ_ U ⟨x,H5,I5,r5,y5,q,O⟩=>?_);have R:=I5.pinned (c O) (T.obj _ _ q);refine wpAny_passesOwn hp (b6 (hg _ U σ3 H5 x u _ R r5 (step x H5 y5)) λ_ s6 ⟨σ6,H6,I6,q6⟩=>?_);refine wpAny_passesOwn hp (b6 (hb _ s6 σ6 H6 _ I6 q6) λf M p=>?_);have j:∀{σ7:St} {l:Hp},Inv X (a++oo C U.heap) σ7 l M->N σ7 l->∃m,m<n/\∃i σ' H',Inv X a σ' H' M/\S i M.heap/\(∀b∈C,H' b=none)/\W i m σ' H':=fun{σ7 l} k z=>by
   obtain⟨m',hm,w7⟩:=hN σ7 l z;refine⟨m',hm,i+1,σ7,l,k.unpinned,T.keep _ _ _ q λb hb o e=>(k.pin (b,o) (q0C _ (q0C _ (gU hb e)))).1,λb hb=>?_,w7⟩;obtain⟨o,e,d⟩:=T.obj _ _ q b hb;exact(k.pin (b,o) (q0C _ (q0C _ (gU hb e)))).2.1
  cases f with
  |next=>obtain⟨σ7,l,k,z⟩:=p;exact j k z
  |cont=>obtain⟨σ7,l,k,z⟩:=p;exact j k z
  |brk=>obtain⟨σ7,l,k,p⟩:=p;exact⟨σ7,l,k.unpinned,p⟩
  |ret v=>obtain⟨x7,σ7,l,k,r7,p⟩:=p;exact⟨x7,σ7,l,k.unpinned,r7,p⟩
end
theorem BX{K:Nv}{xs:List V}{g:TG}{tb:TS}{D:fE}{σ:St}{H:Hp}(Pv:Nat->St->Hp->Prop)(h0:Pv 0 σ H)(hl:∀i σ H,i<=xs.length->Pv i σ H->aI K H a xs)
  (hs:∀i x σ H,xs[i]?=some x->Pv i σ H->g x σ H λσ2 H2=>tb {D with nx:=Pv (i+1),ct:=Pv (i+1),bk:=D.nx} σ2 H2) (hd:∀σ H,Pv xs.length σ H->D.nx σ H) :
  ∃W:Nat->Nat->St->Hp->Prop,(∃m,W 0 m σ H)/\∀i m σ H,W i m σ H ->
   ((AX K a).stop i H/\D.nx σ H)\/((AX K a).go i H/\∃N:St->Hp->Prop,(∀σ' H',N σ' H'->∃m',m'<m/\W (i+1) m' σ' H')/\∀x H',(AX K a).yld i H x H'->g x σ H' λσ2 H2=>tb {D with nx:=N,ct:=N,bk:=D.nx} σ2 H2):=by
 refine⟨λi m σ H=>m=xs.length-i/\i<=xs.length/\Pv i σ H,⟨xs.length,by simp,MZ _,h0⟩,?_⟩;rintro i m σ H ⟨rfl,c,p⟩;have q:=hl i σ H c p
 by_cases b:i<xs.length
 ·refine .inr ⟨⟨xs,xs[i],q,by simp[b]⟩,Pv (i+1),λσ' H' p'=>⟨xs.length-(i+1),⋯,rfl,b,p'⟩,λx H' y=>?_⟩
  obtain⟨e,y⟩:=y;subst e;exact hs i x σ _ (y xs q) p
 ·have e:i=xs.length:=by omega
  subst e;exact .inl ⟨⟨xs,q,MY _⟩,hd σ H p⟩
theorem EH{K:Nv}{xs:List V}{g:TG}{tb:TS}{D:fE}{σ:St}{H:Hp}(Pv:Nat->St->Hp->Prop)(h0:Pv 0 σ H)(hl:∀i σ H,i<=xs.length->Pv i σ H->cy K H a xs)
  (hs:∀i x σ H,xs[i]?=some x->Pv i σ H->g x σ H λσ2 H2=>tb {D with nx:=Pv (i+1),ct:=Pv (i+1),bk:=D.nx} σ2 H2) (hd:∀σ H,Pv xs.length σ H->D.nx σ H) :
  ∃W:Nat->Nat->St->Hp->Prop,(∃m,W 0 m σ H)/\∀i m σ H,W i m σ H ->
   ((Hs K a).stop i H/\D.nx σ H)\/((Hs K a).go i H/\∃N:St->Hp->Prop,(∀σ' H',N σ' H'->∃m',m'<m/\W (i+1) m' σ' H')/\∀x H',(Hs K a).yld i H x H'->g x σ H' λσ2 H2=>tb {D with nx:=N,ct:=N,bk:=D.nx} σ2 H2):=by
 refine⟨λi m σ H=>m=xs.length-i/\i<=xs.length/\Pv i σ H,⟨xs.length,by simp,MZ _,h0⟩,?_⟩;rintro i m σ H ⟨rfl,c,p⟩;have q:=hl i σ H c p
 by_cases b:i<xs.length
 ·refine .inr ⟨⟨xs,xs[i],q,by simp[b]⟩,Pv (i+1),λσ' H' p'=>⟨xs.length-(i+1),⋯,rfl,b,p'⟩,λx H' y=>?_⟩
  obtain⟨e,y⟩:=y;subst e;exact hs i x σ _ (y xs q) p
 ·have e:i=xs.length:=by omega
  subst e;exact .inl ⟨⟨xs,q,MY _⟩,hd σ H p⟩
theorem AC{lo:Int}{n:Nat}{g:TG}{tb:TS}{D:fE}{σ:St}{H:Hp}(Pv:Nat->St->Hp->Prop)(h0:Pv 0 σ H)
  (hs:∀i σ H,i<n->Pv i σ H->g (.int (lo+i)) σ H λσ2 H2=>tb {D with nx:=Pv (i+1),ct:=Pv (i+1),bk:=D.nx} σ2 H2) (hd:∀σ H,Pv n σ H->D.nx σ H) :
  ∃W:Nat->Nat->St->Hp->Prop,(∃m,W 0 m σ H)/\∀i m σ H,W i m σ H ->
   ((Af lo n).stop i H/\D.nx σ H)\/((Af lo n).go i H/\∃N:St->Hp->Prop,(∀σ' H',N σ' H'->∃m',m'<m/\W (i+1) m' σ' H')/\∀x H',(Af lo n).yld i H x H'->g x σ H' λσ2 H2=>tb {D with nx:=N,ct:=N,bk:=D.nx} σ2 H2):=by
 refine⟨λi m σ H=>m=n-i/\i<=n/\Pv i σ H,⟨n,by simp,MZ _,h0⟩,?_⟩;rintro i m σ H ⟨rfl,hi,p⟩
 by_cases a:i<n
 ·refine .inr ⟨a,Pv (i+1),λσ' H' p'=>⟨n-(i+1),⋯,rfl,a,p'⟩,λx H' y=>?_⟩
  obtain⟨e,y⟩:=y;subst e y;exact hs i σ _ a p
 ·have e:i=n:=by omega
  subst e;exact .inl ⟨MY _,hd σ H p⟩
abbrev R2:=V->V->Hp->VK->Prop
def bC(X:Cx)(f:Value->Value->Sem Value)(r:R2):Prop:=
 ∀(pins:Nw) (s:Nz) (σ:St) (H:Hp) (x y:V) (v u:Value) (Q:VK),Inv X pins σ H s->bx x v->bx y u->r x y H Q ->
  wpAny (model X.prog X.w) X.A (f v u) (EP X pins σ Q) X.xe s
def dH(X:Cx)(f:Value)(r:List V->Hp->VK->Prop):Prop:=
 ∀(pins:Nw) (s:Nz) (σ:St) (H:Hp) (xs:List V) (us:NA) (Q:VK),Inv X pins σ H s->bj xs us->r xs H Q ->
  wpAny (model X.prog X.w) X.A (call f us) (EP X pins σ Q) X.xe s
def Jm(X:Cx)(r:V->Hp->(Bool->Hp->Prop)->Prop):Prop:=
 ∀(pins:Nw) (s:Nz) (σ:St) (H:Hp) (x:V) (v:Value) (Q:Bool->Hp->Prop),Inv X pins σ H s->bx x v->r x H Q ->
  wpAny (model X.prog X.w) X.A (truthy v) (TP X pins σ Q) X.xe s
def GF(r:R2)(ta tb:TE):TE:=λσ H Q=>ta σ H λx H1=>tb σ H1 λy H2=>r x y H2 Q
def rI(C:Int->Int->Prop)(g:Int->Int->V):R2:=λx y H Q=>∃i j,x=.int i/\y=.int j/\C i j/\Q (g i j) H
def Bz(g:Int->Int->V):R2:=λx y H Q=>∃i j,x=.int i/\y=.int j/\Q (g i j) H
section
variable {X:Cx}{a b c:Expr}{ta tb tc:TE}{pos:Pos}
theorem Gn(ha:PE X a ta)(hb:PE X b tb){pins:Nw}{s:Nz}{σ:St}{H:Hp}{R:V->V->Hp->Prop}(I:Inv X pins σ H s)
  (h:ta σ H λx H1=>tb σ H1 λy H2=>R x y H2) {Q:Nu} {f:Value->Value->Sem Value}
  (hf:∀v u s2 x y H2,Inv X pins σ H2 s2->bx x v->bx y u->R x y H2->wpAny (model X.prog X.w) X.A (f v u) Q X.xe s2) :
  wpAny (model X.prog X.w) X.A (eval a X.env) (λv s₁=>wpAny (model X.prog X.w) X.A (eval b X.env) (λu s₂=>wpAny (model X.prog X.w) X.A (f v u) Q X.xe s₂) X.xe s₁) X.xe s:=by
 refine b6 (ha pins s σ H _ I h) λv c ⟨x,H1,k,e,i⟩=>?_;refine b6 (hb pins c σ H1 _ k i) λu s2 ⟨y,H2,j,d,g⟩=>?_;exact hf v u s2 x y H2 j e d g
theorem aF{op:Operator}{r:R2}(ho:bC X (binaryOp op) r)(ha:PE X a ta)(hb:PE X b tb):PE X (.BinOp a op b pos) (GF r ta tb):=by
 intro c s σ H Q I h;exact wpAny_BinOp (Gn ha hb I h λv u d x y H2 i g e q=>ho c d σ H2 x y v u Q i g e q)
theorem Jf{f:Value->Value->Sem Value}{C:Int->Int->Prop}{g:Int->Int->Int}
  (rule:∀(i j:Int) (t u:Tok) (s:Nz) (Q:Nu) (E:Nu),C i j->Q (.int (g i j) s.toks) {s with toks:=s.toks+1}->wpAny (model X.prog X.w) X.A (f (.int i t) (.int j u)) Q E s) :
  bC X f (rI C λi j=>.int (g i j)):=by
 intro pins s σ H x y v u Q I rx ry h;obtain⟨i,j,rfl,rfl,b,q⟩:=h;obtain⟨t,rfl⟩:=rx;obtain⟨a,rfl⟩:=ry;exact rule i j t a s _ _ b ⟨.int (g i j),H,I.tok _,⟨_,rfl⟩,q⟩
theorem HW{f:Value->Value->Sem Value}{g:Int->Int->Int}
  (rule:∀(i j:Int) (t u:Tok) (s:Nz) (Q:Nu) (E:Nu),Q (.int (g i j) s.toks) {s with toks:=s.toks+1}->wpAny (model X.prog X.w) X.A (f (.int i t) (.int j u)) Q E s) :
  bC X f (Bz λi j=>.int (g i j)):=by
 intro pins s σ H x y v u Q I rx ry h;obtain⟨i,j,rfl,rfl,q⟩:=h;obtain⟨t,rfl⟩:=rx;obtain⟨a,rfl⟩:=ry;exact rule i j t a s _ _ ⟨.int (g i j),H,I.tok _,⟨_,rfl⟩,q⟩
theorem D_{f:Value->Value->Sem Value}{g:Int->Int->Bool}
  (rule:∀(i j:Int) (t u:Tok) (s:Nz) (Q:Nu) (E:Nu),Q (.bool (g i j)) s->wpAny (model X.prog X.w) X.A (f (.int i t) (.int j u)) Q E s) :
  bC X f (Bz λi j=>.bl (g i j)):=by
 intro pins s σ H x y v u Q I rx ry h;obtain⟨i,j,rfl,rfl,q⟩:=h;obtain⟨t,rfl⟩:=rx;obtain⟨a,rfl⟩:=ry;exact rule i j t a s _ _ ⟨.bl (g i j),H,I,rfl,q⟩
def BN(i j:Int):Prop:=(-(2 ^ 64)<i/\i<2 ^ 64)\/(-(2 ^ 64)<j/\j<2 ^ 64)
theorem BN.ok(h:BN i j):IntMulOk i j:=by
 rcases h with⟨h1,h2⟩ | ⟨h1,h2⟩
 ·exact .of_left (intBits_le_64 h1 h2)
 ·exact .of_right (intBits_le_64 h1 h2)
theorem bY:bC X (binaryOp .Add) (Bz λi j=>.int (i+j)):=HW λ_ _ _ _ _ _ _ q=>add_int q
theorem lP:bC X (binaryOp .Sub) (Bz λi j=>.int (i-j)):=HW λ_ _ _ _ _ _ _ q=>sub_int q
theorem dz:bC X (binaryOp .Mult) (rI BN λi j=>.int (i*j)):=Jf λ_ _ _ _ _ _ _ hc q=>mul_int q hc.ok
theorem bO:bC X (binaryOp .Mod) (rI (λ_ j=>0<j) λi j=>.int (i%j)):=Jf λi j _ _ _ _ _ hc q=>by
 have h1:(0:Int)<j:=hc;exact mod_int' ⋯ (by rw[Int.fmod_eq_emod_of_nonneg i ⋯];exact q)
end
def B7:V->V->Bool
 | .non,.non=>true | .non,.int _=>true | .int _,.non=>true | .non,.bl _=>true | .bl _,.non=>true | .non,.str _=>true | .str _,.non=>true
 | .int _,.int _=>true | .bl _,.bl _=>true | .str _,.str _=>true | .byt _,.byt _=>true
 | .int _,.str _=>true | .str _,.int _=>true | .bl _,.str _=>true | .str _,.bl _=>true
 |_,_=>false
def Jc:R2:=λx y H Q=>B7 x y=true/\Q (.bl (decide (x=y))) H
def Jy:R2:=λx y H Q=>B7 x y=true/\Q (.bl (!decide (x=y))) H
theorem zi{i j:Int}:decide (V.int i=V.int j)=(i==j):=by
 rw[Bool.eq_iff_iff];simp
theorem DS:decide (V.bl i=V.bl j)=(i==j):=by
 rw[Bool.eq_iff_iff];simp
theorem yX:decide (V.str i=V.str j)=(i==j):=by
 rw[Bool.eq_iff_iff];simp
theorem zu:decide (V.byt i=V.byt j)=(i.toList==j.toList):=by
 rw[Bool.eq_iff_iff];cases i;cases j;simp
section
variable {X:Cx}{a b c:Expr}{ta tb tc:TE}{pos:Pos}
theorem bA{pins:Nw}{σ:St}{Q:VK}{k':Bool}(I:Inv X pins σ H s)(q:Q (.bl k) H)(e:k=k'):EP X pins σ Q (.bool k') s:=by
 subst e;exact⟨.bl k,H,I,rfl,q⟩
theorem gI:bC X (compareOp .Eq) Jc:=by
 intro pins s σ H x y v u Q I rx ry h;obtain⟨b,q⟩:=h;cases x with
 |non=>
  cases rx;cases y with
  |non=>cases ry;exact PySem.EqNone.eq_none_none (bA I q (by simp))
  |bl j=>cases ry;exact PySem.EqNone.eq_none_bool (bA I q (by simp))
  |int j=>obtain⟨a,rfl⟩:=ry;exact PySem.EqNone.eq_none_int (bA I q (by simp))
  |str j=>obtain⟨a,rfl⟩:=ry;exact PySem.EqNone.eq_none_str (bA I q (by simp))
  |_=>exact q0Q (show false=true from b) M3
 |bl i=>
  cases rx;cases y with
  |non=>cases ry;exact PySem.EqNone.eq_bool_none (bA I q (by simp))
  |bl j=>cases ry;exact eq_bool (bA I q DS)
  |str j=>obtain⟨a,rfl⟩:=ry;exact PySem.EqMixed.eq_bool_str (bA I q (by simp))
  |_=>exact q0Q (show false=true from b) M3
 |int i=>
  obtain⟨t,rfl⟩:=rx;cases y with
  |non=>cases ry;exact PySem.EqNone.eq_int_none (bA I q (by simp))
  |int j=>obtain⟨a,rfl⟩:=ry;exact eq_int (bA I q zi)
  |str j=>obtain⟨a,rfl⟩:=ry;exact PySem.EqMixed.eq_int_str (bA I q (by simp))
  |_=>exact q0Q (show false=true from b) M3
 |str i=>
  obtain⟨t,rfl⟩:=rx;cases y with
  |non=>cases ry;exact PySem.EqNone.eq_str_none (bA I q (by simp))
  |bl j=>cases ry;exact PySem.EqMixed.eq_str_bool (bA I q (by simp))
  |int j=>obtain⟨a,rfl⟩:=ry;exact PySem.EqMixed.eq_str_int (bA I q (by simp))
  |str j=>obtain⟨a,rfl⟩:=ry;exact eq_str (bA I q yX)
  |_=>exact q0Q (show false=true from b) M3
 |byt i=>
  obtain⟨t,rfl⟩:=rx;cases y with
  |byt j=>obtain⟨a,rfl⟩:=ry;exact PySem.W.eq_bytes (bA I q zu)
  |_=>exact q0Q (show false=true from b) M3
 |_=>cases y<;>exact q0Q (show false=true from b) M3
theorem rj:bC X (compareOp .NotEq) Jy:=by
 intro pins s σ H x y v u Q I rx ry h;obtain⟨b,q⟩:=h;cases x with
 |non=>
  cases rx;cases y with
  |non=>cases ry;exact PySem.EqNone.ne_none_none (bA I q (by simp))
  |bl j=>cases ry;exact PySem.EqNone.ne_none_bool (bA I q (by simp))
  |int j=>obtain⟨a,rfl⟩:=ry;exact PySem.EqNone.ne_none_int (bA I q (by simp))
  |str j=>obtain⟨a,rfl⟩:=ry;exact PySem.EqNone.ne_none_str (bA I q (by simp))
  |_=>exact q0Q (show false=true from b) M3
 |bl i=>
  cases rx;cases y with
  |non=>cases ry;exact PySem.EqNone.ne_bool_none (bA I q (by simp))
  |bl j=>cases ry;exact ne_bool (bA I q (q0R not DS))
  |str j=>obtain⟨a,rfl⟩:=ry;exact PySem.EqMixed.ne_bool_str (bA I q (by simp))
  |_=>exact q0Q (show false=true from b) M3
 |int i=>
  obtain⟨t,rfl⟩:=rx;cases y with
  |non=>cases ry;exact PySem.EqNone.ne_int_none (bA I q (by simp))
  |int j=>obtain⟨a,rfl⟩:=ry;exact ne_int (bA I q (q0R not zi))
  |str j=>obtain⟨a,rfl⟩:=ry;exact PySem.EqMixed.ne_int_str (bA I q (by simp))
  |_=>exact q0Q (show false=true from b) M3
 |str i=>
  obtain⟨t,rfl⟩:=rx;cases y with
  |non=>cases ry;exact PySem.EqNone.ne_str_none (bA I q (by simp))
  |bl j=>cases ry;exact PySem.EqMixed.ne_str_bool (bA I q (by simp))
  |int j=>obtain⟨a,rfl⟩:=ry;exact PySem.EqMixed.ne_str_int (bA I q (by simp))
  |str j=>obtain⟨a,rfl⟩:=ry;exact ne_str (bA I q (q0R not yX))
  |_=>exact q0Q (show false=true from b) M3
 |byt i=>
  obtain⟨t,rfl⟩:=rx;cases y with
  |byt j=>obtain⟨a,rfl⟩:=ry;exact PySem.W.ne_bytes (bA I q (q0R not zu))
  |_=>exact q0Q (show false=true from b) M3
 |_=>cases y<;>exact q0Q (show false=true from b) M3
theorem sH:bC X (compareOp .Lt) (Bz λi j=>.bl (decide (i<j))):=D_ λ_ _ _ _ _ _ _ q=>lt_int q
theorem iy:bC X (compareOp .LtE) (Bz λi j=>.bl (decide (i<=j))):=D_ λ_ _ _ _ _ _ _ q=>le_int q
theorem mX:bC X (compareOp .Gt) (Bz λi j=>.bl (decide (j<i))):=D_ λ_ _ _ _ _ _ _ q=>gt_int q
theorem HJ:bC X (compareOp .GtE) (Bz λi j=>.bl (decide (j<=i))):=D_ λ_ _ _ _ _ _ _ q=>ge_int q
theorem Bx:bC X (compareOp .In) (λx y H Q=>∃i j,x=.str i/\y=.str j/\Q (.bl (!(Builtin.Str.occurrences j i 0 j.length 1).isEmpty)) H):=by
 intro pins s σ H x y v u Q I rx ry h;obtain⟨i,j,rfl,rfl,q⟩:=h;obtain⟨t,rfl⟩:=rx;obtain⟨t',rfl⟩:=ry;exact in_str (bA I q rfl)
theorem GK:bC X (compareOp .Is) (λx y H Q=>y=.non/\Q (.bl (decide (x=.non))) H):=by
 intro pins s σ H x y v u Q I rx ry h;obtain⟨rfl,q⟩:=h;cases ry;refine is_none_gen (bA I q ?_);cases x<;>first
  | (cases rx;rfl)
  | (obtain⟨t,rfl⟩:=rx;rfl)
theorem y_:bC X (compareOp .IsNot) (λx y H Q=>y=.non/\Q (.bl (!decide (x=.non))) H):=by
 intro pins s σ H x y v u Q I rx ry h;obtain⟨rfl,q⟩:=h;cases ry;refine isnot_none_gen (bA I q ?_);cases x<;>first
  | (cases rx;rfl)
  | (obtain⟨t,rfl⟩:=rx;rfl)
theorem kX:bC X (compareOp .NotIn) (λx y H Q=>∃i j,x=.str i/\y=.str j/\Q (.bl (!(!(Builtin.Str.occurrences j i 0 j.length 1).isEmpty))) H):=by
 intro pins s σ H x y v u Q I rx ry h;obtain⟨i,j,rfl,rfl,q⟩:=h;obtain⟨t,rfl⟩:=rx;obtain⟨t',rfl⟩:=ry;exact notIn_str (bA I q rfl)
theorem aZ(b:Expr){op:CmpOp}(h:autoParam (op≠.In) zz1._auto_1)(h2:autoParam (op≠.NotIn) zz1._auto_1):behindInMarks op b=false:=by
 have c:(op==CmpOp.In)=false:=by cases op<;>first | rfl | exact q0Q rfl h
 have a:(op==CmpOp.NotIn)=false:=by cases op<;>first | rfl | exact q0Q rfl h2
 cases b<;>simp[behindInMarks,c,a]
theorem jv{op:CmpOp}{r:R2}(ho:bC X (compareOp op) r)(ha:PE X a ta)(hb:PE X b tb)(hm:behindInMarks op b=false):PE X (.Compare a [op] [b] pos) (GF r ta tb):=by
 intro c s σ H Q I h;exact wpAny_Compare1 (Gn ha hb I h λv u d x y H2 i g e q=>ho c d σ H2 x y v u Q i g e q) hm
def rG(t:TE):TT:=λσ H Q=>t σ H λx H'=>∃k,x=.bl k/\Q k H'
theorem og{op:CmpOp}{r:R2}(ho:bC X (compareOp op) r)(ha:PE X a ta)(hb:PE X b tb)(hm:behindInMarks op b=false):PT X (.Compare a [op] [b] pos) (rG (GF r ta tb)):=by
 intro d s σ H Q I h;refine wpAny_isTrue_Compare1 (b6 (ha d s σ H _ I h) λv i ⟨x,H1,B,m,p⟩=>b6 (hb d i σ H1 _ B p) λu g ⟨y,H2,w,l,o⟩=>
  b6 (ho d g σ H2 x y v u _ w m l o) λc s3 ⟨z,C,q,j,k,e,n⟩=>?_) hm
 subst e;cases j;exact wpAny_truthy_bool ⟨C,q,n⟩
def tH(r r':R2)(ta tb tc:TE):TE:=λσ H Q=>ta σ H λx H1=>tb σ H1 λy H2=>r x y H2 λz H3=>∃k,z=.bl k /\
 (if k=true then tc σ H3 λw' H4=>r' y w' H4 Q else Q (.bl false) H3)
theorem wJ{op op':CmpOp}{r r':R2}(ho:bC X (compareOp op) r)(ho':bC X (compareOp op') r')(ha:PE X a ta)(hb:PE X b tb)(hc:PE X c tc)
  (hm:autoParam (lastMarks [op,op'] [b,c]=false) zz5._auto_1):PE X (.Compare a [op,op'] [b,c] pos) (tH r r' ta tb tc):=by
 intro g s σ H Q I h;refine Compare_chain (b6 (ha g s σ H _ I h) λv w ⟨x,H1,R,D,L⟩=>chain_link (b6 (hb g w σ H1 _ R L) λu q ⟨y,H2,O,i,J⟩=>
  b6 (ho g q σ H2 x y v u _ O D i J) λd p ⟨z,m,l,C,k,e,j⟩=>?_)) hm
 subst e;cases C;refine wpAny_truthy_bool ?_;cases k with
 |false=>exact ite_ff ⟨.bl false,m,l,rfl,j⟩
 |true=>exact ite_tt (chain_last (b6 (hc g p σ m _ l j) λw' o ⟨n,S,M,B,G⟩=>ho' g o σ S y n u w' Q M i B G))
theorem vQ{op op':CmpOp}{r r':R2}(ho:bC X (compareOp op) r)(ho':bC X (compareOp op') r')(ha:PE X a ta)(hb:PE X b tb)(hc:PE X c tc)
  (hm:autoParam (lastMarks [op,op'] [b,c]=false) zz5._auto_1):PT X (.Compare a [op,op'] [b,c] pos) (rG (tH r r' ta tb tc)):=by
 intro g s σ H Q I h;refine isTrue_chain (b6 (ha g s σ H _ I h) λv w ⟨x,H1,I1,G,O⟩=>test_link (b6 (hb g w σ H1 _ I1 O) λu q ⟨y,H2,Z,i,M⟩=>
  b6 (ho g q σ H2 x y v u _ Z G i M) λd p ⟨z,m,l,D,k,e,j⟩=>?_)) hm
 subst e;cases D;refine wpAny_truthy_bool ?_;cases k with
 |false=>
  obtain⟨k',T,R⟩:=j;cases T;exact ite_ff ⟨m,l,R⟩
 |true=>
  refine ite_tt (test_last (b6 (hc g p σ m _ l j) λw' o ⟨n,H4,Y,C,L⟩=>b6 (ho' g o σ H4 y n u w' _ Y i C L) λd' s5 ⟨z2,H5,U,B,k2,S,J⟩=>?_));subst S;cases B;exact wpAny_truthy_bool ⟨H5,U,J⟩
def Iw(K:Nv)(x:V)(H:Hp)(k:Bool):Prop:=
 match x with
 | .non=>k=false
 | .bl b=>k=b
 | .int i=>k=(i != 0)
 | .str y=>y.length<=sizeLine/\k=((y.length:Int) != 0)
 | .byt y=>y.size<=sizeLine/\k=((y.size:Int) != 0)
 | .ref p=>(∃xs,aI K H p xs/\k = !xs.isEmpty)\/(∃xs,cy K H p xs/\k = !xs.isEmpty)\/∃kvs,H p=some (.dK kvs)/\k = !kvs.isEmpty
 |_=>False
theorem yG{κ:Type}{kvs:List (κ×V)}{vs:List (κ×Value)}(r:KV kvs vs):(!vs.isEmpty) = !kvs.isEmpty:=by
 cases r<;>rfl
theorem oZ{its:NA}(r:bj xs its):(!its.toArray.isEmpty) = !xs.isEmpty:=by
 cases r<;>simp
theorem mE:(sizeLine:Nat)<2 ^ 63:=by rw[q0V];decide
theorem F7:Jm X (λx H Q=>∃k,Iw X.K x H k/\Q k H):=by
 intro pins s σ H x v Q I rx h;obtain⟨k,e,q⟩:=h;have hl:=mE;have hs:sizeLine=16777216:=q0V;cases x with
 |non=>
  cases rx;have a:k=false:=e;subst a;exact truthy_none ⟨H,I,q⟩
 |bl b=>
  cases rx;have a:k=b:=e;subst a;exact wpAny_truthy_bool ⟨H,I,q⟩
 |int i=>
  obtain⟨t,rfl⟩:=rx;have a:k=(i != 0):=e;subst a;exact PySem.P.truthy_int ⟨H,I,q⟩
 |str y=>
  obtain⟨t,rfl⟩:=rx;obtain⟨u,a⟩:y.length<=sizeLine/\k=((y.length:Int) != 0):=e;subst a;exact PySem.P.truthy_str ⋯ ⟨H,I.tok _,q⟩
 |byt y=>
  obtain⟨t,rfl⟩:=rx;obtain⟨u,a⟩:y.size<=sizeLine/\k=((y.size:Int) != 0):=e;subst a;exact PySem.W.truthy_bytes ⋯ ⟨H,I.tok _,q⟩
 |ref p=>
  cases rx;have a:(∃g,aI X.K H p g/\k = !g.isEmpty)\/(∃g,cy X.K H p g/\k = !g.isEmpty)\/∃c,H p=some (.dK c)/\k = !c.isEmpty:=e;rcases a with⟨g,j,a⟩ | ⟨g,j,a⟩ | ⟨c,j,a⟩
  ·subst a
   obtain⟨n,r,l,o⟩:=I.list j;have d:=r.length;exact wpAny_truthy_list l.isList (by simp only[MF];omega) ⟨H,I.tok _,by rw[oZ r];exact q⟩
  ·subst a
   obtain⟨n,r,l,o⟩:=I.tuple j;have d:=r.length;exact truthy_tuple l (by simp only[MF];omega) ⟨H,I.tok _,by rw[oZ r];exact q⟩
  ·subst a
   obtain⟨o,z,vs,r,m⟩:c.length<=sizeLine/\(p==sysModules)=false/\∃vs,KV c vs/\s.heap.DictOf (bV X.prog X.w) p vs:=I.hok p _ j;have d:c.length=vs.length:=Paired.length r;exact wpAny_truthy_dict z m ⋯ ⟨H,I.tok _,by rw[yG r];exact q⟩
 |_=>exact(show False from e).elim
theorem DF(ha:PE X a ta)(he:∀whole,isTrue a X.env whole=(do let v <- whole;standAt a.pos;holding [v] (truthy v))) :
  PT X a (λσ H Q=>ta σ H λx H'=>∃k,Iw X.K x H' k/\Q k H'):=by
 intro b s σ H Q I h;exact isTrue_plain (b6 (ha b s σ H _ I h) λv c ⟨x,H1,g,d,e⟩=>F7 b c σ H1 x v Q g d e) (he _)
theorem ia:bC X (binaryOp .Add) (λx y H Q=>∃i j,x=.str i/\y=.str j/\i.length+j.length<=sizeLine/\Q (.str (i++j)) H):=by
 intro pins s σ H x y v u Q I rx ry h;obtain⟨i,j,rfl,rfl,b,q⟩:=h;obtain⟨t,rfl⟩:=rx;obtain⟨a,rfl⟩:=ry;exact add_str (λa tk=>⟨.str (i++j),H,I.tok _,⟨_,rfl⟩,q⟩) b
theorem ow{x:V}{us:NA}(r:bj [x] us):∃u,us=[u]/\bx x u:=by
 cases r with
 |cons r1 r2=>cases r2;exact⟨_,rfl,r1⟩
end
structure xf(h:Heap)(x dx C:Addr)(mA:ND):Prop where
 obj:h.get? x=some (PySem.W.instObj C dx)
 ns:h.Ns1 dx mA
 ne:dx≠x
set_option tactic.hygienic true in
theorem rq{h:Heap}{mA:ND}(n:h.Ns1 dx mA):∃od,h.get? dx=some od/\∀name,PySem.W.lookIn name od=some (mA name):=by
 obtain⟨o,es,ep,ho,hd,hk,_,hm⟩:=n;refine⟨o,ho,λname=>?_⟩;have e:=hm name;unfold nsFind findBy at e;rw[<- Array.find?_toList]at e;unfold PySem.W.lookIn;rw[hd];dsimp only
 split
 ·rename_i y q
  rw[q]at e;exact q0R some e
 ·rename_i q
  rw[q]at e;have a:es.toList.any (·.refKey)=false:=by
   rw[List.any_eq_false];intro y hy;obtain⟨z,t,hkey⟩:=hk y (Array.mem_toList_iff.mp hy);simp[DictEntry.refKey,hkey]
  have a':¬ es.toList.any (·.refKey)=true:=by rw[a];exact M3
  rw[q06 a'];exact q0R some e
theorem xf.look{mA:ND}(I:xf h x dx C mA):∃od,PySem.W.InstAt h x (PySem.W.instObj C dx) C (some od)/\∀name,PySem.W.lookIn name od=some (mA name):=
 let ⟨od,ho,hl⟩:=rq I.ns
 ⟨od,⟨I.obj,rfl,rfl,ho⟩,hl⟩
section
variable {prog:NF}{w:NJ}{A:NH}{E:Nu}{s:Nz}{K:Nv}{x dx C f:Addr}{mA:ND}{name:Str}{v:Value}
theorem Ej{expr:Bool}{Q:Nu}(X:K.In s.heap)(I:xf s.heap x dx C mA)(hg:PySem.W.plainGet K C name=true)(hh:PySem.W.hasDictIn K C=true)
  (ha:PySem.W.findIn K (.ref C) name=some none) (hv:mA name=some v) (hv':PySem.W.handedIn v=true) (h:Q v {s with toks:=s.toks+1}) :
  wpAny (model prog w) A (getAttr (.ref x) name expr) Q E s:=by
 obtain⟨od,J,a⟩:=I.look;exact PySem.W.get_value X J (PySem.W.plainGet_of hg).1 (PySem.W.findObj_own hh ha rfl (by rw[a,hv])) hv' h
theorem Dp{pl:Sem Bool}{Q:Value×List Value->Shared->Prop}(X:K.In s.heap)(I:xf s.heap x dx C mA)(hg:PySem.W.plainGet K C name=true)
  (hf:PySem.W.findIn K (.ref C) name=some (some (.ref f))) (ht:PySem.W.isFn K (.ref f)=true) (hv:mA name=none) (h:Q (.ref f,[.ref x]) s) :
  wpAny (model prog w) A (getMethod (.ref x) name pl) Q E s:=by
 obtain⟨a,J,b⟩:=I.look;exact PySem.W.method_fn X J (PySem.W.plainGet_of hg).1 (PySem.W.plainGet_of hg).2 hf (beq_iff_eq.mp ht) (by show(PySem.W.lookIn name a).map (·.isSome)=some false;rw[b,hv];rfl) h
theorem EL{ns:NG}{Q:Unit->Shared->Prop}(X:K.In s.heap)(I:xf s.heap x dx C mA)
  (hs:PySem.W.findIn K (.ref C) "__setattr__"=some (some (.builtin "object.__setattr__"))) (hp:PySem.W.plainOver K C=true) (ht:PySem.W.takerIn K C name=some none) (hh:PySem.W.hasDictIn K C=true)
  (hw:PySem.Within mA ns) (hsz:ns.length<=sizeLine)
  (h:∀h',xf h' x dx C (λy=>if y=name then some v else mA y)->Heap.SameBut dx s.heap h'->Q () {s with heap:=h',toks:=s.toks+2}) :
  wpAny (model prog w) A (setAttr (.ref x) name v) Q E s:=by
 obtain⟨od,J,hl⟩:=I.look;refine PySem.W.set_plain X J hs (PySem.W.osa_open (s:={s with toks:=s.toks+1}) (r:=none) X J hp ht λb=>?_);obtain⟨cd,l,i⟩:=PySem.W.any_some hh;have k:s.heap.get? x=some ⟨.ref C,some dx,.plain,#[]⟩:=I.obj;refine q04 (q05 (q04 (q04 (wpAny_loadPart k (q04 (PySem.W.Looks.here (s:={s with toks:=s.toks+1}) (PySem.W.looks_clsIn X l) ?_))))));rw[i];refine q05 (a:=some dx) (q04 (q05 (q04 ?_)));refine wpAny_nsSet1 (s:={s with toks:=s.toks+1}) I.ns λh' d c=>?_;obtain⟨oD,esD,epD,e,g,j⟩:=d.count (PySem.Within.cons name v hw);refine q04 (wpAny_lookBehind e (by rw[g];exact pastItsLine_dict (M9 j (by rw[MM];omega))) ?_);exact q05 (h _ ⟨(c.2 _ (Ne.symm I.ne)).trans I.obj,d,I.ne⟩ c)
theorem BP{R:Result->Shared->Prop}{vs:NA}{kw:List (Str×Value)}(X:K.In s.heap)(hm:PySem.W.makesIn K C=true)
  (hi:PySem.W.findIn K (.ref C) "__init__"=some (some (.ref f))) (hf:PySem.W.typeIn K (.ref f)=some (.type "function"))
  (h:codeAny (model prog w) (A.under (.builtin "type.__call__" ⟨.ref C::vs,kw⟩)) (.call (.ref f) ⟨.ref (s.heap.objs.size+1)::vs,kw⟩) (PySem.W.InitBack (s.heap.objs.size+1) R)
   {s with heap:=(s.heap.push PySem.W.emptyDict).push (PySem.W.instObj C s.heap.objs.size)}) :
  codeAny (model prog w) A (.call (.ref C) ⟨vs,kw⟩) R s:=by
 obtain⟨hh,g,d,t,os⟩:=s;exact PySem.W.make_core (PySem.W.makes_of X hm) (PySem.W.looks_findIn X hi) (λself=>PySem.W.bind_fn X self hf) (.inl rfl) h
end
def cG(f:Str)(v:V):List (Str×V)->List (Str×V)
 | []=>[(f,v)]
 | (g,x)::r=>if g=f then(g,v)::r else(g,x)::cG f v r
theorem mY(f g:Str)(v:V):∀fs:List (Str×V),(cG f v fs).lookup g=if g=f then some v else fs.lookup g
 | []=>by
  show List.lookup g [(f,v)]=_
  by_cases h:g=f
  ·have hb:(g==f)=true:=beq_iff_eq.mpr h
   simp only[List.lookup,hb,q07 h]
  ·have hb:(g==f)=false:=beq_eq_false_iff_ne.mpr h
   simp only[List.lookup,hb,q06 h]
 | (k,x)::r=>by
  have ih:=mY f g v r;rw[show cG f v ((k,x)::r)=(if k=f then(k,v)::r else(k,x)::cG f v r) from rfl]
  by_cases hk:k=f
  ·rw[q07 hk]
   by_cases h:g=k
   ·have hb:(g==k)=true:=beq_iff_eq.mpr h
    simp only[List.lookup,hb,q07 (h.trans hk)]
   ·have hb:(g==k)=false:=beq_eq_false_iff_ne.mpr h
    simp only[List.lookup,hb,q06 (λe:g=f=>h (e.trans hk.symm))]
  ·rw[q06 hk]
   by_cases h:g=k
   ·have hb:(g==k)=true:=beq_iff_eq.mpr h
    simp only[List.lookup,hb,q06 (λe:g=f=>hk (h.symm.trans e))]
   ·have hb:(g==k)=false:=beq_eq_false_iff_ne.mpr h
    simp only[List.lookup,hb];exact ih
theorem l6(f:Str)(v:V):∀fs:List (Str×V),f∈(cG f v fs).map (·.1)/\∀g,g∈fs.map (·.1)->g∈(cG f v fs).map (·.1)
 | []=>⟨by simp[cG],λg h=>by simp at h⟩
 | (k,x)::r=>by
  obtain⟨i1,i2⟩:=l6 f v r;rw[show cG f v ((k,x)::r)=(if k=f then(k,v)::r else(k,x)::cG f v r) from rfl]
  by_cases hk:k=f
  ·rw[q07 hk]
   subst hk;exact⟨by simp,λg h=>by simpa using h⟩
  ·rw[q06 hk]
   refine⟨?_,λg h=>?_⟩
   ·rw[M8]
    exact MR _ i1
   ·rw[M8]at h ⊢
    rcases MQ.mp h with e | e
    ·exact MQ.mpr (.inl e)
    ·exact MR _ (i2 g e)
theorem di(f:Str)(v:V):∀fs:List (Str×V),(cG f v fs).length<=fs.length+1
 | []=>by simp[cG]
 | (k,x)::r=>by
  have ih:=di f v r;rw[show cG f v ((k,x)::r)=(if k=f then(k,v)::r else(k,x)::cG f v r) from rfl]
  by_cases hk:k=f
  ·rw[q07 hk,MM,MM];omega
  ·rw[q06 hk,MM,MM];omega
theorem iG.some_of{v:V}{o:Option Value}(r:iG (some v) o):∃u,o=some u/\bx v u:=by
 cases o with
 |none=>exact(show False from r).elim
 |some u=>exact⟨u,rfl,r⟩
theorem iG.none_of(r:iG none o):o=none:=by
 cases o with
 |none=>rfl
 |some u=>exact(show False from r).elim
theorem Ah(r:bx v u):PySem.W.handedIn u=true:=by
 cases v with
 |non=>cases(show u=Value.none from r);rfl
 |bl b=>cases(show u=Value.bool b from r);rfl
 |int i=>obtain⟨t,e⟩:=(show ∃t,u=Value.int i t from r);cases e;rfl
 |str x=>obtain⟨t,e⟩:=(show ∃t,u=Value.str x t from r);cases e;rfl
 |byt b=>obtain⟨t,e⟩:=(show ∃t,u=Value.bytes b t from r);cases e;rfl
 |flt b=>obtain⟨t,e⟩:=(show ∃t,u=Value.float b t from r);cases e;rfl
 |ref a=>cases(show u=Value.ref a from r);rfl
 |ty n=>cases(show u=Value.type n from r);rfl
section
variable {P:NF}{w:NJ}{H H':Hp}{h h':Heap}{a C dx:Addr}{fs fs':List (Str×V)}
theorem ol(hok:jA P w H h)(e:H a=some (.ins C dx fs)):∃mA,xf h a dx C mA/\(∀f,iG (fs.lookup f) (mA f))/\PySem.Within mA (fs.map (·.1))/\fs.length<=1000/\H dx=some (.own a):=by
 obtain⟨d,z,ne,b,mA,n,r,q⟩:=(show bU P w H h a (.ins C dx fs) from hok a _ e);exact⟨mA,⟨b,n,ne⟩,r,q,z,d⟩
end
structure iF(K:Nv)(C:Addr):Prop where
 pg:PySem.W.plainGet K C Str.empty=true
 hd:PySem.W.hasDictIn K C=true
 po:PySem.W.plainOver K C=true
 sa:PySem.W.findIn K (.ref C) "__setattr__"=some (some (.builtin "object.__setattr__"))
theorem iF.get{K:Nv}(c:iF K C)(f:Str):PySem.W.plainGet K C f=true:=c.pg
def ay(K:Nv)(C:Addr)(f:Str):Prop:=PySem.W.findIn K (.ref C) f=some none
theorem ay.taker{K:Nv}{f:Str}(n:ay K C f):PySem.W.takerIn K C f=some none:=by
 unfold PySem.W.takerIn;rw[show PySem.W.findIn K (.ref C) f=some none from n]
 rfl
structure iz(K:Nv)(C:Addr)(m:Str)(f:Addr):Prop where
 at_:PySem.W.findIn K (.ref C) m=some (some (.ref f))
 fn:PySem.W.isFn K (.ref f)=true
 kp:PySem.W.keepIn K (.ref f)=true
section
variable {X:Cx}{pins:Nw}{σ:St}{H:Hp}{s:Nz}{a C dx:Addr}{fs:List (Str×V)}{f:Str}{v:V}{A:NH}{E:Nu}
theorem xg{Q:Nu}(I:Inv X pins σ H s)(e:H a=some (.ins C dx fs))(c:iF X.K C)(n:ay X.K C f)(l:fs.lookup f=some v)
  (h:∀u s',Inv X pins σ H s'->bx v u->Q u s'):wpAny (model X.prog X.w) A (getAttr (.ref a) f b) Q E s:=by
 obtain⟨g,O,r,_,_,_⟩:=ol I.hok e;obtain⟨u,i,d⟩:=iG.some_of (v:=v) (o:=g f) (by rw[<- l];exact r f);exact Ej I.kIn O (c.get f) c.hd n i (Ah d) (h u _ (I.tok _) d)
theorem fP{pl:Sem Bool}{Q:Value×List Value->Shared->Prop}(I:Inv X pins σ H s)(e:H a=some (.ins C dx fs))(c:iF X.K C)(k:iz X.K C m g)(l:fs.lookup m=none)
  (h:Q (.ref g,[.ref a]) s):wpAny (model X.prog X.w) A (getMethod (.ref a) m pl) Q E s:=by
 obtain⟨b,O,r,_,_,_⟩:=ol I.hok e;have d:b m=none:=iG.none_of (by rw[<- l];exact r m);exact Dp I.kIn O (c.get m) k.at_ k.fn d h
theorem xG{Q:Unit->Shared->Prop}(I:Inv X pins σ H s)(e:H a=some (.ins C dx fs))(c:iF X.K C)(n:ay X.K C f)(hl:fs.length<1000)(ry:bx y u)
  (h:∀s',Inv X pins σ (aD H a (.ins C dx (cG f y fs))) s'->Q () s'):wpAny (model X.prog X.w) A (setAttr (.ref a) f u) Q E s:=by
 obtain⟨j,O,r,i,_,k⟩:=ol I.hok e;have m:(fs.map (·.1)).length<=sizeLine:=by rw[My,q0V];omega
 refine EL I.kIn O c.sa c.po n.taker c.hd i m λw d l=>h _ ?_;have hd:∃o,w.get? dx=some o:=let ⟨o,_,_,e',_⟩:=d.ns;⟨o,e'⟩
 refine I.write (x:=a) (e:=dx) (by rw[e];exact True.intro) (.inr k) (λb q v z=>(l.2 b v).trans z) hd ?_;refine⟨by rw[aq O.ne];exact k,?_,O.ne,d.obj,_,d.ns,λg=>?_,λg p=>?_⟩
 ·have:=di f y fs;omega
 ·show iG ((cG f y fs).lookup g) (if g=f then some u else j g)
  rw[mY]
  by_cases q:g=f
  ·rw[q07 q,q07 q];exact ry
  ·rw[q06 q,q06 q];exact r g
 ·by_cases q:g=f
  ·rw[q];exact(l6 f y fs).1
  ·refine(l6 f y fs).2 g (i g λz=>p ?_)
   show(if g=f then some u else j g)=none;rw[q06 q];exact z
theorem Inv.made(I:Inv X pins σ H s):Inv X pins σ (aD (aD H s.heap.objs.size (.own (s.heap.objs.size+1))) (s.heap.objs.size+1) (.ins C s.heap.objs.size []))
  {s with heap:=(s.heap.push PySem.W.emptyDict).push (PySem.W.instObj C s.heap.objs.size)}:=by
 have c:(s.heap.push PySem.W.emptyDict).get? s.heap.objs.size=some PySem.W.emptyDict:=ME s.heap rfl;have j:((s.heap.push PySem.W.emptyDict).push (PySem.W.instObj C s.heap.objs.size)).get? (s.heap.objs.size+1)=some (PySem.W.instObj C s.heap.objs.size):=by
  have:=ME (s.heap.push PySem.W.emptyDict) (o:=PySem.W.instObj C s.heap.objs.size) rfl
  rwa [Heap.size_push]at this
 have i:(s.heap.push PySem.W.emptyDict).Ns s.heap.objs.size (λ_=>none):=⟨PySem.W.emptyDict,#[],_,c,rfl,(λe g=>q0Q g (by simp)),λ_=>rfl⟩;have k:=I.laid (a:=s.heap.objs.size) (o:=.own (s.heap.objs.size+1)) (h':=s.heap.push PySem.W.emptyDict) (t':=s.toks) (λb u q=>Mx _ q) (MY _) ⟨_,c⟩;refine k.laid (a:=s.heap.objs.size+1) (o:=.ins C s.heap.objs.size []) (t':=s.toks) (λb u q=>Mx _ q) (Nat.le_of_eq (Heap.size_push _ _)) ?_;have ne:s.heap.objs.size≠s.heap.objs.size+1:=MU (M' _);refine⟨by rw[aq ne,ae],MZ _,ne,j,λ_=>none,(Heap.Ns1.of_empty i).at λo q=>Mx _ q,λ_=>True.intro,λy d=>q0Q rfl d⟩
theorem EU{prog:NF}{env:Env}{f:Str}{pos:Pos}{Q:Nu}(hb:attributeBase e f env (eval e env)=eval e env)
  (h:wpAny (model prog w) A (eval e env) (λo s₁=>wpAny (model prog w) A (getAttr o f true) Q E s₁) E s):wpAny (model prog w) A (eval (.Attribute e f pos) env) Q E s:=
 Attribute_any_ h (by rw[arm_eval_Attribute,hb])
end
def zV(K:Nv)(ta:TE)(f:Str):TE:=λσ H Q=>ta σ H λx H1=>∃a C dx fs v,x=.ref a/\H1 a=some (.ins C dx fs)/\iF K C/\ay K C f/\fs.lookup f=some v/\Q v H1
def Ca(K:Nv)(ta tv:TE)(f:Str):TS:=λD σ H=>tv σ H λy H1=>ta σ H1 λx H2=>∃a C dx fs,x=.ref a/\H2 a=some (.ins C dx fs)/\iF K C/\ay K C f/\fs.length<1000 /\
 D.nx σ (aD H2 a (.ins C dx (cG f y fs)))
section
variable {X:Cx}{o e value:Expr}{f:Str}{pos pos' tpos:Pos}{ta tv:TE}
theorem xS(he:PE X e ta)(hb:attributeBase e f X.env (eval e X.env)=eval e X.env):PE X (.Attribute e f pos) (zV X.K ta f):=by
 intro b s σ H Q I h;refine EU hb (b6 (he b s σ H _ I h) λu s1 ⟨x,H1,m,d,a,C,dx,fs,v,i,j,c,n,l,q⟩=>?_);subst i;obtain rfl:u=Value.ref a:=d;exact xg m j c n l λu' s2 k g=>⟨v,H1,k,g,q⟩
theorem Hd(ha:PE X o ta)(hv:PE X value tv)(hs:swapsWith value (some (.Attribute o f pos')) pos.line X.env=pure false):PS X (.Assign [.Attribute o f pos'] value pos) (Ca X.K ta tv f):=by
 intro b s σ H D I h;refine plainObj_wpAny_Assign_Attribute (b6 (hv b s σ H _ I h) λu d ⟨y,H1,r,e,q⟩=>b6 (ha b d σ H1 _ r q) λov s2 ⟨x,H2,p,g,a,C,dx,fs,j,k,c,n,l,i⟩=>?_) hs;subst j;obtain rfl:ov=Value.ref a:=g;exact xG p k c n l e λs3 m=>⟨σ,_,m,i⟩
end
section
variable {X:Cx}{pins:Nw}{σ:St}{H:Hp}{s:Nz}{A:NH}{E:Nu}{Q:Nu}{c:Value}{b:Bool}
inductive gK(K:Nv)(H:Hp):V->Value->Prop where
 |non:gK K H .non (.type "NoneType")
 |bl (x:Bool):gK K H (.bl x) (.type "bool")
 |int (i:Int):gK K H (.int i) (.type "int")
 |str (x:Str):gK K H (.str x) (.type "str")
 |flt (x:UInt64):gK K H (.flt x) (.type "float")
 |lst {a:Addr} {xs:List V} (e:H a=some (.lst xs)):gK K H (.ref a) (.type "list")
 |frz {a:Addr} {o:Obj} {xs:List V} (e:H a=some (.frz o (.lst xs))):gK K H (.ref a) (.type "list")
 |tup {a:Addr} {xs:List V} (e:H a=some (.tup xs)):gK K H (.ref a) (.type "tuple")
 |dK {a:Addr} {kvs:List (c_×V)} (e:H a=some (.dK kvs)):gK K H (.ref a) (.type "dict")
 |dT {a:Addr} {kvs:List (List c_×V)} (e:H a=some (.dT kvs)):gK K H (.ref a) (.type "dict")
 |ins {a C dx:Addr} {fs:List (Str×V)} (e:H a=some (.ins C dx fs)) (cl:iF K C) (ha:PySem.W.findIn K (.ref C) "__class__"=some (some (.builtin "object.__class__")))
   (hn:PySem.W.specialIn K (.builtin "object.__class__") "__get__"=some (some (.builtin "getset_descriptor.__get__"))) (htk:PySem.W.takesIn K (.builtin "object.__class__")=some true)
   (hm:PySem.W.mroIn K C (.type "object")=some true):gK K H (.ref a) (.ref C)
theorem By{t:Value}(I:Inv X pins σ H s)(rx:bx x u)(ty:gK X.K H x t)(e:PySem.W.kitOne X.K t c=some b)(h:∀tk,Q (.bool b) {s with toks:=tk}) :
  wpAny (model X.prog X.w) A (call (.builtin "isinstance") [u,c]) Q E s:=by
 cases ty with
 |non=>cases(show u=Value.none from rx);exact PySem.W.kia_one PySem.W.kitx_none I.kIn True.intro e (λz=>nomatch z) h
 |bl y=>cases(show u=Value.bool y from rx);exact PySem.W.kia_one PySem.W.kitx_bool I.kIn True.intro e (λz=>nomatch z) h
 |int i=>obtain⟨t,q⟩:=(show ∃t,u=Value.int i t from rx);cases q;exact PySem.W.kia_one PySem.W.kitx_int I.kIn True.intro e (λz=>nomatch z) h
 |str y=>obtain⟨t,q⟩:=(show ∃t,u=Value.str y t from rx);cases q;exact PySem.W.kia_one PySem.W.kitx_str I.kIn True.intro e (λz=>nomatch z) h
 |flt y=>obtain⟨t,q⟩:=(show ∃t,u=Value.float y t from rx);cases q;exact PySem.W.kia_one PySem.W.kitx_float I.kIn True.intro e (λz=>nomatch z) h
 | @lst a d ea=>
  cases(show u=Value.ref a from rx);obtain⟨_,_,n,_,h1⟩:=(show bU X.prog X.w H s.heap a (.lst d) from I.hok a _ ea);exact PySem.W.kia_one PySem.W.kitx_list I.kIn ⟨_,h1,rfl⟩ e (λz=>nomatch z) h
 | @frz a ob d ea=>
  cases(show u=Value.ref a from rx);obtain⟨_,_,_,n,_,h1⟩:=(show bU X.prog X.w H s.heap a (.frz ob (.lst d)) from I.hok a _ ea);exact PySem.W.kia_one PySem.W.kitx_list I.kIn ⟨_,h1,rfl⟩ e (λz=>nomatch z) h
 | @tup a d ea=>
  cases(show u=Value.ref a from rx);obtain⟨_,_,_,p⟩:=(show bU X.prog X.w H s.heap a (.tup d) from I.hok a _ ea);obtain⟨o,h1,h2,_⟩:=p;exact PySem.W.kia_one PySem.W.kitx_tuple I.kIn ⟨o,h1,h2⟩ e (λz=>nomatch z) h
 | @dK a kvs ea=>
  cases(show u=Value.ref a from rx);obtain⟨_,_,vs,_,p⟩:=(show bU X.prog X.w H s.heap a (.dK kvs) from I.hok a _ ea);obtain⟨o,g,j,h1,h2,_⟩:=p;exact PySem.W.kia_one PySem.W.kitx_dict I.kIn ⟨o,h1,h2.1⟩ e (λz=>nomatch z) h
 | @dT a kvs ea=>
  cases(show u=Value.ref a from rx);obtain⟨_,_,d,_,o,g,j,h1,h2,_⟩:=(show bU X.prog X.w H s.heap a (.dT kvs) from I.hok a _ ea);exact PySem.W.kia_one PySem.W.kitx_dict I.kIn ⟨o,h1,h2.1⟩ e (λz=>nomatch z) h
 | @ins a C dx fs ea cl ha hn htk hm=>
  cases(show u=Value.ref a from rx);obtain⟨mA,O,_⟩:=ol I.hok ea;obtain⟨od,J,_⟩:=O.look;exact PySem.W.kia_one (PySem.W.kitx_own (cl.get _) cl.hd ha hn htk hm) I.kIn J e (λz=>nomatch z) h
end
structure cO(k:Nat)(A:NH):Prop where
 hd:A.handled=none
 dp:A.depth+3*k+5<recursionLimit
 un:A.units+16*k+200<cLine
theorem cO.mono{j:Nat}(r:cO k A)(h:j<=k):cO j A:=⟨r.hd,by have:=r.dp;omega,by have:=r.un;omega⟩
theorem cO.deeper{k:Nat}{A:NH}(r:cO (k+1) A)(env:Env):cO k (A.deeper env):=
 ⟨r.hd,by have:=r.dp;show A.depth+1+3*k+5<_;omega,by have:=r.un;show A.units+3+16*k+200<_;omega⟩
theorem cO.in1{k:Nat}{A:NH}(r:cO (k+1) A):cO k A.in1:=
 ⟨r.hd,by have:=r.dp;show A.depth+3*k+5<_;omega,by have:=r.un;show A.units+1+16*k+200<_;omega⟩
theorem xU{A:NH}{C:Addr}{us:NA}{kw:List (Str×Value)}:(A.under (.builtin "type.__call__" ⟨.ref C::us,kw⟩)).depth=A.depth+1:=by
 first | rfl | simp[Around.under,Code.weight,Code.isCreation,Code.isGuard,Code.isCaller,Code.frames,Code.isFrame,guardIds]
theorem yp{A:NH}{C:Addr}{us:NA}{kw:List (Str×Value)}:(A.under (.builtin "type.__call__" ⟨.ref C::us,kw⟩)).units=A.units+1:=by
 first | rfl | simp[Around.under,Code.cUnits,Code.frames,Code.isFrame]
theorem cO.make{k:Nat}{A:NH}(r:cO (k+1) A)(C:Addr)(us:NA)(kw:List (Str×Value)):cO k (A.under (.builtin "type.__call__" ⟨.ref C::us,kw⟩)):=
 ⟨r.hd,by have:=r.dp;rw[xU];omega,by have:=r.un;rw[yp];omega⟩
theorem cO.depth(r:cO k A):A.depth<recursionLimit:=by have:=r.dp;omega
theorem cO.units(r:cO k A):A.units+64<cLine:=by have:=r.un;omega
def oz:TA:=λ_ H Q=>Q [] H
def lD(ta:TE)(tr:TA):TA:=λσ H Q=>ta σ H λx H1=>tr σ H1 λxs H2=>Q (x::xs) H2
section
variable {X:Cx}{e:Expr}{es:NL}{te:TE}{t:TA}{pos:Pos}
theorem ac:PA X [] oz:=λ_ _ _ _ H Q I h=>Calls.spliced_nil ⟨[],H,I,.nil,h⟩
theorem aa(ha:PE X e te)(hr:PA X es t)(hs:autoParam (starEach (e::es) X.env=(false,eval e X.env)::starEach es X.env) zz0._auto_1):PA X (e::es) (lD te t):=by
 intro b a s σ H Q I h;rw[hs];show wpAny _ _ (spliced ((false,eval e X.env)::backTo b (starEach es X.env))) _ _ s;refine Calls.spliced_cons (b6 (ha a s σ H _ I h) λu d ⟨x,H1,m,i,k⟩=>?_);exact b6 (hr b a d σ H1 _ m k) λus s2 ⟨c,H2,l,g,j⟩=>⟨x::c,H2,l,.cons i g,j⟩
def GD(t:TA):TE:=λσ H Q=>t σ H λxs H1=>xs.length<=sizeLine/\∀p,H1 p=none->Q (.ref p) (aD H1 p (.tup xs))
def EY(t:TA):TE:=λσ H Q=>t σ H λxs H1=>xs.length<=sizeLine/\∀p,H1 p=none->Q (.ref p) (aD H1 p (.lst xs))
theorem bH{x1}(h:PA X es t):PE X (.Tuple es x1 pos) (GD t):=by
 intro a s σ H Q I hq;refine wpAny_Tuple_spliced (b6 (h pos a s σ H _ I hq) λus c ⟨g,H1,d,r,z,q⟩=>⟨by rw[<- r.length];exact z,?_⟩);have i:H1 c.heap.objs.size=none:=d.hok.fresh (MY _);refine⟨.ref c.heap.objs.size,aD H1 c.heap.objs.size (.tup g),d.laid (t':=c.toks) (λb u e=>Mx _ e) (MY _) ?_,rfl,q _ i⟩;exact⟨z,us,r,⟨_,ME _ rfl,rfl,_,rfl⟩⟩
theorem bh(h:PA X es t):PE X (.List es pos) (EY t):=by
 intro a s σ H Q I hq;refine wpAny_List_spliced (b6 (h pos a s σ H _ I hq) λus c ⟨g,H1,d,r,z,q⟩=>⟨by rw[<- r.length];exact z,?_⟩);have i:H1 c.heap.objs.size=none:=d.hok.fresh (MY _);refine⟨.ref c.heap.objs.size,aD H1 c.heap.objs.size (.lst g),d.laid (t':=c.toks) (λb u e=>Mx _ e) (MY _) ?_,rfl,q _ i⟩;exact⟨z,us,0,r,ME _ rfl⟩
end
abbrev Sp:=List V->Hp->VK->XK->Prop
abbrev iI:=List Env->Hp->Shared->XK->Value->Shared->Prop
structure pH(P:NF)(w:NJ)(K:Nv)(mg:ND)(base:Heap)(A:NH)(outer:List Env)(s:Nz)(H:Hp):Prop where
 frames:A.frames=some outer
 mod:Mod K mg base
 bs:∀b o,base.get? b=some o->s.heap.get? b=some o/\H b=none
 bsz:base.objs.size<=s.heap.objs.size
 funs:s.heap.FunFrames base outer
 frf:∀b∈lG outer,H b=none
 hok:jA P w H s.heap
 bare:AllBare s.gens
def CE(outer:List Env)(P:NF)(w:NJ)(H:Hp)(s:Nz)(Q:VK)(u:Value)(s':Nz):Prop:=
 ∃v H',s'.os=s.os/\AllBare s'.gens/\Un (lG outer) [] H H' s.heap s'.heap/\jA P w H' s'.heap/\bx v u/\Q v H'
def CR(CX:iI)(outer:List Env)(P:NF)(w:NJ)(H:Hp)(s:Nz)(Q:VK)(E:XK)(r:Result)(s':Nz):Prop:=
 match r with
 | .ok (.ret u)=>CE outer P w H s Q u s'
 | .ok _=>False
 | .error e=>CX outer H s E e s'
structure aV(P:NF)(w:NJ)(K:Nv)(mg:ND)(base:Heap)(CX:iI)(k:Nat)(f:Addr)(fd:NE)(ps:NG)(sp:Sp):Prop where
 len:∀vs H Q E,sp vs H Q E->vs.length=ps.length
 run:∀(A:NH) (outer:List Env) (s:Nz) (H:Hp) (args:Args) (us:NA) (vs:List V) (Q:VK) (E:XK),cO k A->pH P w K mg base A outer s H->BindsTo s fd args (ps.zip us)->bj vs us->sp vs H Q E ->
  codeAny (model P w) A (.call (.ref f) args) (CR CX outer P w H s Q E) s
theorem aV.mono{K:Nv}{mg:ND}{base:Heap}{CX:iI}{k:Nat}{f:Addr}{ps:NG}{sp:Sp}(F:aV P w K mg base CX j f fd ps sp)(h:j<=k) :
  aV P w K mg base CX k f fd ps sp:=⟨F.len,λA outer s H args us vs Q E hr=>F.run A outer s H args us vs Q E (hr.mono h)⟩
theorem pH.make{K:Nv}{mg:ND}{base:Heap}{outer:List Env}(e:pH P w K mg base A outer s H)(C:Addr)(us:NA)(kw:List (Str×Value)) :
  pH P w K mg base (A.under (.builtin "type.__call__" ⟨.ref C::us,kw⟩)) outer s H:=⟨by first | exact e.frames | (simpa[Around.under,Code.envs,Code.isFrame,pushEnvs]using e.frames),e.mod,e.bs,e.bsz,e.funs,e.frf,e.hok,e.bare⟩
theorem pH.in1{K:Nv}{mg:ND}{base:Heap}{outer:List Env}(e:pH P w K mg base A outer s H) :
  pH P w K mg base A.in1 outer s H:=⟨e.frames,e.mod,e.bs,e.bsz,e.funs,e.frf,e.hok,e.bare⟩
section
variable {X:Cx}{pins:Nw}{σ:St}{H:Hp}{s s':Nz}
theorem Inv.env0(I:Inv X pins σ H s):pH X.prog X.w X.K X.mg X.base X.A X.stack s H:=
 ⟨I.ok.frames,I.ok.mod,I.bs,M9 I.ok.bsz I.sz,I.stack,I.stkFree,I.hok,I.bare⟩
theorem Inv.after(I:Inv X pins σ H s)(h:CE X.stack X.prog X.w H s Q u s'):EP X pins σ Q u s':=by
 obtain⟨v,j,os,a,un,e,r,q⟩:=h;obtain⟨i,g,d,t,c⟩:=s';obtain rfl:c=s.os:=os;exact⟨v,j,I.call (h':=i) (g':=g) (d':=d) (t':=t) (ch:=[]) un e a (λb z=>q0Q z (by simp)),r,q⟩
end
def m8(sp:Sp)(dvs:List V)(E:XK)(t:TA):TE:=λσ H Q=>t σ H λvs H1=>sp (vs++dvs) H1 Q E
def sM(C:Addr)(m:Str)(sp:Sp)(dvs:List V)(E:XK)(ta:TE)(t:TA):TE:=λσ H Q=>ta σ H λx H1=>∃a dx fs,x=.ref a/\H1 a=some (.ins C dx fs)/\fs.lookup m=none /\
 t σ H1 λvs H2=>sp (x::(vs++dvs)) H2 Q E
def zD(C:Addr)(sp:Sp)(dvs:List V)(E:XK)(t:TA):TE:=λσ H Q=>t σ H λvs H1=>∀x dx,H1 x=none->H1 dx=none->dx≠x ->
 sp (.ref x::(vs++dvs)) (aD (aD H1 dx (.own x)) x (.ins C dx [])) (λv H2=>v=.non/\Q (.ref x) H2) E
def dP(K:Nv)(fd:NE)(ps:NG)(ds:NA):Prop:=
 ∀(s:Nz) (us:NA),K.In s.heap->(us++ds).length=ps.length->BindsTo s fd ⟨us,[]⟩ (ps.zip (us++ds))
theorem dP.all{K:Nv}{ps:NG}(h:∀us:List Value,us.length=ps.length->bindArgs fd ⟨us,[]⟩=pure (ps.zip us)):dP K fd ps []:=λs us _ hl=>by
 rw[Na]at hl ⊢;exact .of_eq (h us hl)
def dl(CX:iI)(X:Cx)(E:XK):Prop:=∀(pins:Nw) (σ:St) (H:Hp) (s:Nz) (e:Value) (s':Nz),Inv X pins σ H s->CX X.stack H s E e s'->X.xe e s'
section
variable {X:Cx}{CX:iI}{k:Nat}{f C:Addr}{fd:NE}{ps:NG}{sp:Sp}{dvs:List V}{ds:NA}{E:XK}{x m:Str}{p pos apos:Pos}{e o:Expr}{es:NL}{ta:TE}{t:TA}
theorem lH{pins:Nw}{σ:St}(F:aV X.prog X.w X.K X.mg X.base CX k f fd ps sp)(hr:cO k X.A)(hb:dP X.K fd ps ds)(hd:bj dvs ds)(hx:dl CX X E)
  (I:Inv X pins σ H s) (r:bj vs us) (h:sp (vs++dvs) H Q E):wpAny (model X.prog X.w) X.A (call (.ref f) us) (EP X pins σ Q) X.xe s:=by
 have b:bj (vs++dvs) (us++ds):=r.append hd;have d:(us++ds).length=ps.length:=by rw[<- b.length];exact F.len _ _ _ _ h
 refine wpAny_call (codeAny_mono (F.run X.A X.stack s H ⟨us,[]⟩ (us++ds) (vs++dvs) Q E hr I.env0 (hb s us I.kIn d) b h) λr c a=>?_);cases r with
 |error e=>exact hx pins σ H s e c I a
 |ok fl=>
  cases fl with
  |ret u=>exact I.after a
  |next=>exact False.elim a
  |brk=>exact False.elim a
  |cont=>exact False.elim a
theorem Ei(F:aV X.prog X.w X.K X.mg X.base CX k f fd ps sp)(hr:cO k X.A)(hg:Gl X x)(hm:X.mg x=some (.ref f))(hk:PySem.W.keepIn X.K (.ref f)=true)(hb:dP X.K fd ps ds)(hd:bj dvs ds)(hx:dl CX X E)
  (ha:PA X (e::es) t) (hdb:autoParam ((x==("__debug__":Str))=false) zz1._auto_1) (he:autoParam (starEach (e::es) X.env=(false,eval e X.env)::starEach es X.env) zz0._auto_1) (hpl:autoParam ((backTo pos (starEach es X.env)).any (·.1)=false) zz0._auto_1) :
  PE X (.Call (.Name x p) (e::es) [] pos) (m8 sp dvs E t):=by
 intro a s σ H Q I h;refine wpAny_Call_Name_kw (g8 I hg hm ?_ hdb);refine PySem.W.callWith_K (h₀:=X.base) I.ok.mod.kin hk (b6 (ha pos a s σ H _ I h) λus s1 ⟨vs,H1,b,r,q⟩=>⟨b.kIn,?_⟩) he hpl;exact lH F hr hb hd hx b r q
theorem El{pl:Sem Bool}(he:PE X o ta)(c:iF X.K C)(hm:iz X.K C m f)(F:aV X.prog X.w X.K X.mg X.base CX k f fd ps sp)(hr:cO k X.A)(hb:dP X.K fd ps ds)(hd:bj dvs ds)(hx:dl CX X E)(ha:PA X (e::es) t)
  (hst:autoParam (starEach (e::es) X.env=(false,eval e X.env)::starEach es X.env) zz0._auto_1) (hpl:autoParam ((backTo pos (starEach es X.env)).any (·.1)=false) zz0._auto_1)
  (ht:autoParam (eval (.Call (.Attribute o m apos) (e::es) [] pos) X.env=(do
   let ov <- eval o X.env
   standAt apos.atName
   let (f,first) <- holding [ov] (getMethod ov m pl)
   callWith pos f first (backTo pos (starEach (e::es) X.env)) (backToKw pos (keywordEach [] X.env)))) zz0._auto_1) :
  PE X (.Call (.Attribute o m apos) (e::es) [] pos) (sM C m sp dvs E ta t):=by
 intro b s σ H Q I h;refine PySem.W.methodCall_KW (pl:=pl) (b6 (he b s σ H _ I h) λu i ⟨x,H1,g,j,a,dx,fs,p,v,l,q⟩=>?_) ht;subst p;obtain rfl:u=Value.ref a:=j;refine fP g v c hm l ?_;refine PySem.W.callWith_K (first:=[.ref a]) (h₀:=X.base) I.ok.mod.kin hm.kp (b6 (ha pos b i σ H1 _ g q) λus s2 ⟨vs,H2,d,r,n⟩=>⟨d.kIn,?_⟩) hst hpl;exact lH (us:=.ref a::us) (vs:=.ref a::vs) F hr hb hd hx d (.cons rfl r) n
theorem Dw{pl:Sem Bool}(he:PE X o ta)(c:iF X.K C)(hm:iz X.K C m f)(F:aV X.prog X.w X.K X.mg X.base CX k f fd ps sp)(hr:cO k X.A)(hb:dP X.K fd ps ds)(hd:bj dvs ds)(hx:dl CX X E)
  (ht:autoParam (eval (.Call (.Attribute o m apos) [] [] pos) X.env=(do
   let ov <- eval o X.env
   standAt apos.atName
   let (f,first) <- holding [ov] (getMethod ov m pl)
   callWith pos f first (backTo pos (starEach [] X.env)) (backToKw pos (keywordEach [] X.env)))) zz0._auto_1) :
  PE X (.Call (.Attribute o m apos) [] [] pos) (sM C m sp dvs E ta oz):=by
 intro b s σ H Q I h;refine PySem.W.methodCall_KW (pl:=pl) (b6 (he b s σ H _ I h) λu s1 ⟨x,H1,d,e,a,dx,fs,g,i,l,q⟩=>?_) ht;subst g;obtain rfl:u=Value.ref a:=e;refine fP d i c hm l ?_;exact PySem.W.callWith_K0 (first:=[.ref a]) d.kIn hm.kp (lH (us:=[.ref a]) (vs:=[.ref a]) F hr hb hd hx d (.cons rfl .nil) q)
structure Mk(K:Nv)(C f:Addr):Prop where
 makes:PySem.W.makesIn K C=true
 init:PySem.W.findIn K (.ref C) "__init__"=some (some (.ref f))
 fn:PySem.W.isFn K (.ref f)=true
 kp:PySem.W.keepIn K (.ref C)=true
theorem Da{pins:Nw}{σ:St}{Q:VK}(M:Mk X.K C f)(F:aV X.prog X.w X.K X.mg X.base CX k f fd ps sp)(hr:cO (k+1) X.A)(hb:dP X.K fd ps ds)(hd:bj dvs ds)
  (hx:dl CX X E) (I:Inv X pins σ H s) (r:bj vs us)
  (h:∀x dx,H x=none->H dx=none->dx≠x->sp (.ref x::(vs++dvs)) (aD (aD H dx (.own x)) x (.ins C dx [])) (λv H2=>v=.non/\Q (.ref x) H2) E) :
  wpAny (model X.prog X.w) X.A (call (.ref C) us) (EP X pins σ Q) X.xe s:=by
 have d:=h (s.heap.objs.size+1) s.heap.objs.size (I.hok.fresh (Nat.le_succ _)) (I.hok.fresh (MY _)) (MU (M' _));have b:=Inv.made (C:=C) I;have c:bj (V.ref (s.heap.objs.size+1)::(vs++dvs)) (Value.ref (s.heap.objs.size+1)::(us++ds)):=.cons rfl (r.append hd);have l:(Value.ref (s.heap.objs.size+1)::us++ds).length=ps.length:=by
  have e:=c.length;rw[F.len _ _ _ _ d]at e;exact e.symm
 refine wpAny_call (BP (f:=f) I.kIn M.makes M.init (beq_iff_eq.mp M.fn) (codeAny_mono (F.run _ X.stack _ _ ⟨Value.ref (s.heap.objs.size+1)::us,[]⟩ (Value.ref (s.heap.objs.size+1)::(us++ds)) _ _ E (hr.make C us [])
  (b.env0.make C us []) (hb _ (Value.ref (s.heap.objs.size+1)::us) b.kIn l) c d) λr g a=>?_))
 cases r with
 |error e=>exact hx pins σ _ _ e g b a
 |ok fl=>
  cases fl with
  |ret u=>
   obtain⟨v,o,n,i,m,j⟩:=b.after a;subst m;exact⟨i,⟨V.ref (s.heap.objs.size+1),o,n,rfl,j⟩⟩
  |next=>exact False.elim a
  |brk=>exact False.elim a
  |cont=>exact False.elim a
theorem E4(M:Mk X.K C f)(F:aV X.prog X.w X.K X.mg X.base CX k f fd ps sp)(hr:cO (k+1) X.A)(hg:Gl X x)(hm:X.mg x=some (.ref C))(hb:dP X.K fd ps ds)(hd:bj dvs ds)(hx:dl CX X E)
  (ha:PA X (e::es) t) (hdb:autoParam ((x==("__debug__":Str))=false) zz1._auto_1) (he:autoParam (starEach (e::es) X.env=(false,eval e X.env)::starEach es X.env) zz0._auto_1) (hpl:autoParam ((backTo pos (starEach es X.env)).any (·.1)=false) zz0._auto_1) :
  PE X (.Call (.Name x p) (e::es) [] pos) (zD C sp dvs E t):=by
 intro a s σ H Q I h;refine wpAny_Call_Name_kw (g8 I hg hm ?_ hdb);refine PySem.W.callWith_K (h₀:=X.base) I.ok.mod.kin M.kp (b6 (ha pos a s σ H _ I h) λus s1 ⟨vs,H1,b,r,q⟩=>⟨b.kIn,?_⟩) he hpl;exact Da M F hr hb hd hx b r q
end
def PK(X:Cx)(kws:List Keyword)(t:TA):Prop:=
 ∀(pos:Pos) (pins:Nw) (s:Nz) (σ:St) (H:Hp) (Q:List V->Hp->Prop),Inv X pins σ H s->t σ H Q->wpAny (model X.prog X.w) X.A (evalAll ((backToKw pos (keywordEach kws X.env)).map (·.2))) (AP X pins σ Q) X.xe s
section
variable {X:Cx}{CX:iI}{k:Nat}{f C:Addr}{fd:NE}{ps ks:NG}{sp:Sp}{E:XK}{x m:Str}{p pos apos kpos:Pos}{e o:Expr}{es:NL}{kws:List Keyword}{te ta:TE}{t tk:TA}{nm:Option Str}
theorem Gb:PK X [] oz:=λ_ _ _ _ H Q I h=>wpAny_evalAll_nil ⟨[],H,I,.nil,h⟩
theorem EW(ha:PE X e te)(hr:PK X kws t):PK X (⟨nm,e,kpos⟩::kws) (lD te t):=by
 intro b a s σ H Q I h;show wpAny _ _ (evalAll ((do let v <- eval e X.env;standAt b;pure v)::(backToKw b (keywordEach kws X.env)).map (·.2))) _ _ s;refine wpAny_evalAll_cons (q04 (b6 (ha a s σ H _ I h) λu d ⟨x,H1,m,i,k⟩=>q04 (wpAny_standAt (q05 ?_))));exact b6 (hr b a d σ H1 _ m k) λus s2 ⟨c,H2,l,g,j⟩=>⟨x::c,H2,l,.cons i g,j⟩
variable {g:List Value->List Value->List Value}{gV:List V->List V->List V}
end
structure az(N P:NG)(sc:Scope):Prop where
 kind:sc.kind=.function
 co:sc.isCoroutine=false
 gen:sc.isGenerator=false
 nd:N.Nodup
 pre:N.take P.length=P
 par:∀x∈P,sc.names.lookup x=some .local\/sc.names.lookup x=some .cell
 nofree:∀y∈sc.names,y.2≠.free
theorem rN{kindOf:Str->Option NameKind}{x:Str}:∀{binds:List (Str×Value)} {m:ND},(∀v,(x,v)∉binds)->bindL kindOf binds m x=m x
 | [],_,_=>rfl
 | (n,v)::r,m,h=>by
  unfold bindL;rw[rN λw hw=>h w (MR _ hw)]
  split
  ·have:x≠n:=by rintro rfl;exact h v q0B
   simp[this]
  ·rfl
theorem rR{kindOf:Str->Option NameKind}{x:Str}:∀{binds:List (Str×Value)} {m:ND},(∀v,(x,v)∉binds)->bindC kindOf binds m x=m x
 | [],_,_=>rfl
 | (n,v)::r,m,h=>by
  unfold bindC;rw[rR λw hw=>h w (MR _ hw)]
  split
  ·rfl
  ·have:x≠n:=by rintro rfl;exact h v q0B
   simp[this]
theorem rA{kindOf:Str->Option NameKind}{x:Str}{v:Value}:∀{P:NG} {vs:NA} {i:Nat} {m:ND},P.Nodup->P[i]?=some x->vs[i]?=some v->kindOf x=some .local ->
  bindL kindOf (P.zip vs) m x=some v
 | [],_,_,_,_,h,_,_=>by simp at h
 |_::_,[],_,_,_,_,h,_=>by simp at h
 |p::P,w::vs,0,m,nd,h1,h2,hk=>by
  simp at h1 h2;subst h1;subst h2
  show bindL kindOf ((p,w)::P.zip vs) m p=_;unfold bindL;rw[rN λv hv=>(List.nodup_cons.mp nd).1 (List.of_mem_zip hv).1,q07 hk];simp
 |p::P,w::vs,i+1,m,nd,h1,h2,hk=>by
  show bindL kindOf ((p,w)::P.zip vs) m x=_;unfold bindL;exact rA (i:=i) (List.nodup_cons.mp nd).2 (by simpa using h1) (by simpa using h2) hk
theorem rm{kindOf:Str->Option NameKind}{x:Str}{v:Value}:∀{P:NG} {vs:NA} {i:Nat} {m:ND},P.Nodup->P[i]?=some x->vs[i]?=some v->kindOf x≠some .local ->
  bindC kindOf (P.zip vs) m x=some v
 | [],_,_,_,_,h,_,_=>by simp at h
 |_::_,[],_,_,_,_,h,_=>by simp at h
 |p::P,w::vs,0,m,nd,h1,h2,hk=>by
  simp at h1 h2;subst h1;subst h2
  show bindC kindOf ((p,w)::P.zip vs) m p=_;unfold bindC;rw[rR λv hv=>(List.nodup_cons.mp nd).1 (List.of_mem_zip hv).1,q06 hk];simp
 |p::P,w::vs,i+1,m,nd,h1,h2,hk=>by
  show bindC kindOf ((p,w)::P.zip vs) m x=_;unfold bindC;exact rm (i:=i) (List.nodup_cons.mp nd).2 (by simpa using h1) (by simpa using h2) hk
def start(N:NG)(vs:List V):St:=vs.map some++List.replicate (N.length-vs.length) none
def iD(CX:iI)(P:NF)(w:NJ)(K:Nv)(mg:ND)(base:Heap)(N:NG)(qual:Str)(scope:Scope)(f:Addr)(cd:Value)(A:NH)(outer:List Env)(s:Nz)(H:Hp)(E:XK):Cx where
 prog:=P
 w:=w
 K:=K
 mg:=mg
 base:=base
 A:=A.deeper (envOfC qual scope s.heap.objs.size f cd)
 N:=N
 s₀:=s
 H₀:=H
 env:=envOfC qual scope s.heap.objs.size f cd
 outer:=outer
 stack:=envOfC qual scope s.heap.objs.size f cd::outer
 ex:=[]
 calm:=true
 fn:=λ_=>true
 pn:=[]
 xe:=λe s'=>wpAny (model P w) (A.deeper (envOfC qual scope s.heap.objs.size f cd)) (leaving (envOfC qual scope s.heap.objs.size f cd) e) (λ_ s''=>CX outer H s E e s'') (λe' s''=>CX outer H s E e' s'') s'
theorem v_{sc:Scope}(h:sc.names.lookup x=some .cell):∃c,(cellsFrom n sc.names []).lookup x=some c:=by
 have q:=PySem.W.cellsFrom_some sc.names n [] (.inl h);exact Option.isSome_iff_exists.mp q
theorem AO{CX:iI}{K:Nv}{mg:ND}{base:Heap}{ps:NG}{qual:Str}{scope:Scope}{f:Addr}{cd:Value}{A:NH}{outer:List Env}{s1:Nz}{vs:List V}
  (S:az N ps scope) (hd:A.handled=none) (e0:pH P w K mg base A outer s H) (hl:vs.length=ps.length) (r:bj vs us)
  (x:InCallC s s.heap.objs.size (bindL (envOfC qual scope s.heap.objs.size f cd).kindOf (ps.zip us) λ_=>none) (cellsFrom (s.heap.objs.size+1) scope.names []) (bindC (envOfC qual scope s.heap.objs.size f cd).kindOf (ps.zip us) λ_=>none) s1) :
  Inv (iD CX P w K mg base N qual scope f cd A outer s H E) [] (start N vs) H s1:=by
 have hpl:ps.length<=N.length:=by have:=q0R List.length S.pre;rw[Nf]at this;omega
 obtain⟨h1,tk,rfl,o⟩:=x.done;have d:∀b:Addr,b∉(iD CX P w K mg base N qual scope f cd A outer s H E).ex:=λb z=>q0Q (show b∈([]:List Addr) from z) (by simp);refine⟨⟨e0.mod,S.kind,rfl,rfl,MY _,λy z c h1 h2=>?_,λy hy=>?_,λy c _ h=>?_,λ_=>hd,Around.frames_deeper e0.frames,.inr ⟨rfl,rfl⟩,λb z=>q0Q z (d b),e0.bs,e0.bsz,λb _ _=>d b,λb z=>q0Q z (d b),e0.funs,e0.frf⟩,
  rfl,e0.bare,Un.kept o,⟨_,x.toInCall.ns,λi y v h1 h2 h3=>?_⟩,λy c h=>⟨_,x.cell y c h⟩,e0.hok.fresh (MY _),λy c h=>?_,λp j=>q0Q (show p∈([]:List (Addr×Obj)) from j) (by simp),e0.hok.kept o,?_⟩
 ·exact name_of_addr x.apart (PySem.mem_of_lookup h1) (PySem.mem_of_lookup h2)
 ·have hy:scope.names.lookup y=some .cell\/scope.names.lookup y=some .free:=hy
  rcases hy with hy | hy
  ·exact v_ hy
  ·exact q0Q rfl (S.nofree _ (PySem.mem_of_lookup hy))
 ·exact q0P (x.above y c (PySem.mem_of_lookup h))
 ·have l:i<vs.length:=by
   unfold start at h2
   by_cases l:i<vs.length
   ·exact l
   ·rw[MV (by simpa using l)]at h2
    rw[List.getElem?_replicate]at h2
    split at h2<;>cases h2
  have C:vs[i]?=some v:=by
   unfold start at h2;rw[MW (by simpa using l),MA]at h2;cases e:vs[i]? with
   |none=>rw[e]at h2;cases h2
   |some a=>rw[e]at h2;cases h2;rfl
  obtain⟨u,m,B⟩:=r.get C;have j:ps[i]?=some y:=by
   rw[<- S.pre,List.getElem?_take_of_lt ⋯];exact h1
  have g:ps.Nodup:=by rw[<- S.pre];exact S.nd.sublist (List.take_sublist _ _)
  refine⟨u,B,?_⟩;rcases S.par y (MB j) with k | k
  ·exact .inl ⟨k,rA g j m k⟩
  ·obtain⟨c,e⟩:=v_ (n:=s.heap.objs.size+1) k
   refine .inr ⟨.inl k,c,e,?_⟩;have q:=x.cell y c e;rw[rm g j m (by show scope.names.lookup y≠_;rw[k];decide)]at q;exact q
 ·exact e0.hok.fresh (q0P (x.above y c (PySem.mem_of_lookup h)))
 ·unfold start
  show _=N.length;rw[MX,My,List.length_replicate];omega
theorem DM{CX:iI}{K:Nv}{mg:ND}{base:Heap}{f:Addr}{name qual:Str}{params:Arguments}{body:List Stmt}{scope:Scope}{dV kV doc pm cdv ct oc:Value}{an od:NK}
  {osl:Array (Option Value)}{ps:NG} {sp:Sp} (lk:K.lookup f=some ⟨oc,od,.func (PySem.W.fnOf name qual params body scope dV kV doc pm an cdv ct),osl⟩) (hcd:PySem.W.codeIn K cdv qual=true) (S:az N ps scope)
  (len:∀vs H Q E,sp vs H Q E->vs.length=ps.length)
  (hbody:∀(A:NH) (outer:List Env) (s:Nz) (H:Hp) (vs:List V) (Q:VK) (E:XK),cO k (A.deeper (envOfC qual scope s.heap.objs.size f cdv))->sp vs H Q E ->
   ∃t,vb (iD CX P w K mg base N qual scope f cdv A outer s H E) body t/\t {nx:=λ_ H'=>Q .non H',rt:=Q} (start N vs) H) :
  aV P w K mg base CX (k+1) f (PySem.W.fnOf name qual params body scope dV kV doc pm an cdv ct) ps sp:=by
 refine⟨len,λA outer s H args z vs Q E hr g M r d=>?_⟩;have G:=len _ _ _ _ d;have p:K.In s.heap:=g.mod.kin.keeps λb o e=>(g.bs b o e).1;have l:s.heap.NoLimit:=g.mod.nolimit.keeps λb o e=>(g.bs b o e).1;have a:∀y∈ps.zip z,scope.names.lookup y.1=some .local\/(scope.names.lookup y.1=some .cell/\((cellsFrom (s.heap.objs.size+1) scope.names []).lookup y.1).isSome=true):=λ⟨n,v⟩ B=>by
  rcases S.par n (List.of_mem_zip B).1 with q | q
  ·exact .inl q
  ·exact .inr ⟨q,PySem.W.cellsFrom_some _ _ _ (.inl q)⟩
 refine codeAny_call_function hr.depth (p _ _ lk) rfl S.co S.gen rfl (PySem.W.codeRec_of p hcd) (M _ _ _ _ ?_);refine wpAny_newFunctionEnv_cells S.kind a λenv L m x=>?_;subst L;refine⟨l.keeps x.toInCall.keep,codeAny_func ?_⟩;obtain⟨t,C,D⟩:=hbody A outer s H vs Q E (hr.deeper _) d;have I:Inv (iD CX P w K mg base N qual scope f cdv A outer s H E) [] (start N vs) H m:=AO S hr.hd g G r x;refine q0W (C [] m (start N vs) H _ I D) (λO i c=>?_) λe i c=>c;have dW:∀{σ':St} {H':Hp} {v:V} {u:Value},Inv (iD CX P w K mg base N qual scope f cdv A outer s H E) [] σ' H' i->bx v u->Q v H'->CE outer P w H s Q u i:=
  fun{σ' H' v u} J j q=>⟨v,H',J.os,J.bare,J.base,J.hok,j,q⟩
 cases O with
 |ret u=>
  obtain⟨v,σ',H',J,j,q⟩:=c;exact dW J j q
 |next=>
  obtain⟨σ',H',J,q⟩:=c;exact dW (v:=V.non) (u:=Value.none) J rfl q
 |brk=>
  obtain⟨_,_,_,q⟩:=c;exact False.elim q
 |cont=>
  obtain⟨_,_,_,q⟩:=c;exact False.elim q
section
variable {X:Cx}{x:Str}{p pos:Pos}{e:Expr}{es:NL}{t:TA}{id T:String}{r:List V->Hp->VK->Prop}
def IQ(r:List V->Hp->VK->Prop)(t:TA):TE:=λσ H Q=>t σ H λvs H1=>r vs H1 Q
theorem aC(hc:dH X (.builtin id) r)(hg:Gl X x)(hm:X.mg x=none)(hv:bootBuiltins x=some (.builtin id))(ha:PA X (e::es) t)(hn:autoParam (x≠"__name__") zz1._auto_1)(hdb:autoParam ((x==("__debug__":Str))=false) zz1._auto_1)
  (he:autoParam (starEach (e::es) X.env=(false,eval e X.env)::starEach es X.env) zz0._auto_1) (hpl:autoParam ((backTo pos (starEach es X.env)).any (·.1)=false) zz0._auto_1):PE X (.Call (.Name x p) (e::es) [] pos) (IQ r t):=by
 intro a s σ H Q I h;refine wpAny_Call_Name_kw (eO I hg hm hv ?_ hn hdb);exact PyProof.Rows.callWith_builtin1 (b6 (ha pos a s σ H _ I h) λus b ⟨vs,H1,g,c,d⟩=>hc a b σ H1 vs us Q g c d) he hpl
theorem cq(hc:dH X (.type T) r)(hg:Gl X x)(hm:X.mg x=none)(hv:bootBuiltins x=some (.type T))(ha:PA X (e::es) t)(hn:autoParam (x≠"__name__") zz1._auto_1)(hdb:autoParam ((x==("__debug__":Str))=false) zz1._auto_1)
  (he:autoParam (starEach (e::es) X.env=(false,eval e X.env)::starEach es X.env) zz0._auto_1) (hpl:autoParam ((backTo pos (starEach es X.env)).any (·.1)=false) zz0._auto_1):PE X (.Call (.Name x p) (e::es) [] pos) (IQ r t):=by
 intro a s σ H Q I h;refine wpAny_Call_Name_kw (eO I hg hm hv ?_ hn hdb);exact PyProof.Rows.callWith_type1 (b6 (ha pos a s σ H _ I h) λus b ⟨vs,H1,g,c,d⟩=>hc a b σ H1 vs us Q g c d) he hpl
end
end L2
namespace HT
open PySem PyProof.Rows
section
variable {prog:NF}{w:NJ}{A:NH}{E:Nu}{s:Nz}
theorem cat_tup{t:Addr}{vs ws:NA}{Q:Nu}(ht:IsTup s.heap t vs.toArray)(hb:IsTup s.heap b ws.toArray)(hv:vs≠[])
  (h1:ws=[]->Q (.ref t) s) (h2:ws≠[]->Q (.ref s.heap.objs.size) {s with heap:=s.heap.push {cls:=.type "tuple",data:=.seq (vs++ws).toArray} })
  (hsz:vs.length+ws.length<=sizeLine):wpAny (model prog w) A (binaryOp .Add (.ref t) (.ref b)) Q E s:=by
 obtain⟨⟨cls,q,data,l⟩,k,p,n,o⟩:=id ht;obtain⟨⟨cls2,i,data2,c⟩,a,g,m,d⟩:=id hb;simp only at p o g d;subst p o g d;have e:vs.toArray++ws.toArray=(vs++ws).toArray:=by simp
 by_cases j:ws=[]
 ·exact concat_meets ⟨_,k,rfl⟩ ⟨_,a,rfl⟩ noFill_tuple_add seq_tuple_add PySem.F.slot_tuple_add PySem.F.entry_tuple_add (PySem.F.args_tuple_add_2 _ _)
   (tuple_addW1 t b vs.toArray ws.toArray n m q i l c (by simpa using hv) (by simp[j])) ⟨k,a,h1 j⟩
 ·refine concat_meets ⟨_,k,rfl⟩ ⟨_,a,rfl⟩ noFill_tuple_add seq_tuple_add PySem.F.slot_tuple_add PySem.F.entry_tuple_add (PySem.F.args_tuple_add_2 _ _)
   (tuple_addW2 t b vs.toArray ws.toArray n m q i l c (by simpa using hv) (by simpa using j) (by rw[MF,MF];exact hsz)) ⟨k,a,?_⟩
  rw[e];exact h2 j
def sIx(n d:Nat):Option Int->Nat
 |none=>d
 |some v=>if v<0 then(v+(n:Int)).toNat else min v.toNat n
theorem sIx_nat(n d k:Nat):sIx n d (some (k:Int))=min k n:=by
 show(if(k:Int)<0 then((k:Int)+(n:Int)).toNat else min (k:Int).toNat n)=min k n;rw[q06 ⋯,MJ]
theorem sIx_le(n d:Nat)(hd:d<=n)(o:Option Int):sIx n d o<=n:=by
 cases o with
 |none=>exact hd
 |some v=>
  show(if v<0 then(v+(n:Int)).toNat else min v.toNat n)<=n
  by_cases a:v<0
  ·rw[q07 a];omega
  ·rw[q06 a];exact Nat.min_le_right _ _
theorem zF(v:Int)(n d:Nat):(if v<0 then max (v+(n:Int)) 0 else min v (n:Int))=((sIx n d (some v):Nat):Int):=by
 show(if v<0 then max (v+(n:Int)) 0 else min v (n:Int))=(((if v<0 then(v+(n:Int)).toNat else min v.toNat n):Nat):Int)
 by_cases a:v<0
 ·simp only[q07 a];omega
 ·simp only[q06 a];omega
theorem xV(lo hi:Option Int)(n:Nat):Builtin.Slice.sliceAdjust lo hi 1 (n:Int)=(((sIx n 0 lo:Nat):Int),((sIx n n hi:Nat):Int)):=by
 have h1:¬ ((1:Int)<0):=by omega
 unfold Builtin.Slice.sliceAdjust;simp only[h1,if_false];refine Prod.ext ?_ ?_
 ·cases lo with
  |none=>rfl
  |some v=>exact zF v n 0
 ·cases hi with
  |none=>rfl
  |some v=>exact zF v n n
theorem yu(i j:Nat):Builtin.Slice.slicePlaces (i:Int) (j:Int) 1=j-i:=by
 unfold Builtin.Slice.slicePlaces;have h1:(1:Int)>0:=by omega
 simp only[h1,if_true,Int.ediv_one]
 split<;>omega
theorem oP{Q:Option Int->Shared->Prop}(p:IsPart v o)(h:Q o s):wpAny (model prog w) A (Builtin.Slice.slicePartIndex v) Q E s:=by
 cases p with
 |none=>exact slicePart_none h
 |int i t=>exact slicePart_int h
theorem mJ{sl:Addr}{vl vu:Value}{lo hi:Option Int}{n:Nat}{Q:Int×Int×Nat->Shared->Prop}(hs:s.heap.IsSliceOf sl vl vu .none)(pl:IsPart vl lo)(pu:IsPart vu hi)
  (h:Q (((sIx n 0 lo:Nat):Int),1,sIx n n hi-sIx n 0 lo) s):wpAny (model prog w) A (Builtin.Slice.sliceApplied (.ref sl) (pure (n:Int))) Q E s:=by
 obtain⟨os,a,hcs,b⟩:=id hs;unfold Builtin.Slice.sliceApplied Builtin.Slice.sliceFields;refine q04 (q04 (wpAny_field a b (x:=vl) rfl (q04 (wpAny_field a b (x:=vu) rfl (q04 (wpAny_field a b (x:=.none) rfl (q05 ?_)))))));refine q04 (slicePart_none ?_);show wpAny _ _ (if((1:Int)==0)=true then _ else _) _ _ s;rw[q06 nofun];refine q04 (oP pl (q04 (oP pu (q04 (q05 ?_)))));show wpAny _ _ (match Builtin.Slice.sliceAdjust lo hi 1 (n:Int) with | (lo,hi)=>pure (lo,(1:Int),Builtin.Slice.slicePlaces lo hi 1)) _ _ s;rw[xV lo hi n];show wpAny _ _ (pure (((sIx n 0 lo:Nat):Int),(1:Int),Builtin.Slice.slicePlaces ((sIx n 0 lo:Nat):Int) ((sIx n n hi:Nat):Int) 1)) _ _ s;rw[yu];exact q05 h
theorem BE(xs:Array Value)(i k:Nat):((List.range k).filterMap fun(m:Nat)=>xs[((i:Int)+(m:Int)*1).toNat]?).toArray=((xs.toList.drop i).take k).toArray:=by
 have e:(fun(m:Nat)=>xs[((i:Int)+(m:Int)*1).toNat]?)=λm=>xs[i+m]?:=by
  funext m
  have:((i:Int)+(m:Int)*1).toNat=i+m:=by omega
  rw[this]
 rw[e];have:=pick_run xs i k;rw[List.filterMap_map]at this;have a:((λx=>xs[x]?)∘λx=>i+x)=λm=>xs[i+m]?:=rfl;rw[a]at this;rw[this]
theorem getItem_tuple_cut{t sl:Addr}{items:Array Value}{vl vu:Value}{lo hi:Option Int}{Q:Nu}(ht:IsTup s.heap t items)(hs:s.heap.IsSliceOf sl vl vu .none)(pl:IsPart vl lo)(pu:IsPart vu hi)
  (hw:¬ (sIx items.size 0 lo=0/\sIx items.size items.size hi=items.size))
  (h:Q (.ref s.heap.objs.size) {s with heap:=s.heap.push {cls:=.type "tuple",data:=.seq ((items.toList.drop (sIx items.size 0 lo)).take (sIx items.size items.size hi-sIx items.size 0 lo)).toArray} })
  (hsz:items.size<=sizeLine):wpAny (model prog w) A (getItem (.ref t) (.ref sl)) Q E s:=by
 have a:sizeOk (.seq ((items.toList.drop (sIx items.size 0 lo)).take (sIx items.size items.size hi-sIx items.size 0 lo)).toArray):=by
  show((items.toList.drop (sIx items.size 0 lo)).take (sIx items.size items.size hi-sIx items.size 0 lo)).toArray.size<=sizeLine;rw[MF,Nf,Ng,Array.length_toList];omega
 have hj:sIx items.size items.size hi<=items.size:=sIx_le _ _ (MY _) hi;obtain⟨g,b,d,hds⟩:=id hs;have e:s.TypeIs (.ref sl) "slice":=⟨g,b,d⟩;unfold getItem
 try with_reducible refine q0X ?_
 first | refine q04 (q05 ?_) | skip
 refine q04 (wpAny_sequenceKey ht.typeIs nofun ?_);refine q04 (wpAny_callSpecial?_slot (name:=Str.ofString "__getitem__") ht.typeIs PyProof.Rows.slot_tuple_getitem
  (wpAny_call_entry PyProof.Rows.slot_tuple_getitem ht.typeIs entry_tuple_getitem ?_ (args_tuple_getitem _ _)))
 show wpAny _ _ (Builtin.Tuple.tupleItemsOf (.ref t) >>= _) _ _ s;refine q04 (tupleItemsOf_ ht ?_);refine q04 (wpAny_typeOf e ?_);rw[q07 nofun];refine q04 (mJ hs pl pu ?_);have c:¬ ((((sIx items.size 0 lo:Nat):Int)==0&&(1:Int)==1&&(sIx items.size items.size hi-sIx items.size 0 lo)==items.size)=true):=by
  intro q;rw[q0O,q0O]at q;have q1:((sIx items.size 0 lo:Nat):Int)=0:=eq_of_beq q.1.1;have q2:sIx items.size items.size hi-sIx items.size 0 lo=items.size:=eq_of_beq q.2;exact hw ⟨⋯,⋯⟩
 show wpAny _ _ (if(((sIx items.size 0 lo:Nat):Int)==0&&(1:Int)==1&&(sIx items.size items.size hi-sIx items.size 0 lo)==items.size)=true then _ else _) _ _ s;rw[q06 c,BE]
 first
  |exact q04 (m:=Builtin.Tuple.tupleExact _) (wpAny_newObj_type (q05 ⟨_,rfl,q05 h⟩) a)
  |exact q04 (m:=Builtin.Tuple.tupleExact _) (wpAny_newObj_type (q04 (q05 (q05 ⟨_,rfl,q05 h⟩))) a)
  |exact q04 (q04 (m:=Builtin.Tuple.tupleExact _) (wpAny_newObj_type (q05 (q05 ⟨_,rfl,q05 h⟩)) a))
  |exact q04 (q04 (m:=Builtin.Tuple.tupleExact _) (wpAny_newObj_type (q05 ⟨_,rfl,q05 h⟩) a))
end
end HT
namespace L2
open PySem PySem.Spec PyProof.Rows
abbrev TO:=St->Hp->(Option Int->Hp->Prop)->Prop
def PO(X:Cx)(e:Option Expr)(t:TO):Prop:=
 ∀(pins:Nw) (s:Nz) (σ:St) (H:Hp) (Q:Option Int->Hp->Prop),Inv X pins σ H s->t σ H Q ->
  wpAny (model X.prog X.w) X.A (evalPart e X.env) (λu s'=>∃o H',Inv X pins σ H' s'/\IsPart u o/\Q o H') X.xe s
def uB:TO:=λ_ H Q=>Q none H
def DN(t:TE):TO:=λσ H Q=>t σ H λx H1=>∃i,x=.int i/\Q (some i) H1
section
variable {X:Cx}{e:Expr}{te:TE}{lo hi:Option Expr}{tl th:TO}{pos p2:Pos}
theorem fS:PO X none uB:=by
 intro pins s σ H Q I h;rw[evalPart_none];exact q05 ⟨none,H,I,.none,h⟩
theorem Fq(h:PE X e te):PO X (some e) (DN te):=by
 intro a s σ H Q I hw;rw[evalPart_some];refine b6 (h a s σ H _ I hw) λu s1 ⟨x,H1,d,b,c⟩=>?_;obtain⟨i,rfl,q⟩:=c;obtain⟨t,rfl⟩:=b;exact⟨some i,H1,d,.int i t,q⟩
def IE(X:Cx)(r:V->Option Int->Option Int->Hp->VK->Prop):Prop:=
 ∀(pins:Nw) (s:Nz) (σ:St) (H:Hp) (x:V) (v vl vu:Value) (lo hi:Option Int) (sl:Addr) (Q:VK),Inv X pins σ H s->bx x v->s.heap.IsSliceOf sl vl vu .none->IsPart vl lo->IsPart vu hi->r x lo hi H Q ->
  ∃T id,typeLookup (.type T) "__getitem__"=pure (some (.builtin id))/\s.TypeIs v T/\wpAny (model X.prog X.w) X.A (getItem v (.ref sl)) (EP X pins σ Q) X.xe s
def JA(r:V->Option Int->Option Int->Hp->VK->Prop)(te:TE)(tl th:TO):TE:=λσ H Q=>te σ H λx H1=>tl σ H1 λl H2=>th σ H2 λu H3=>r x l u H3 Q
theorem dh(hr:IE X r)(he:PE X e te)(hl:PO X lo tl)(hu:PO X hi th):PE X (.Subscript e (.Slice lo hi none p2) pos) (JA r te tl th):=by
 intro a s σ H Q I h;refine Subscript_ (b6 (he a s σ H _ I h) λv i ⟨x,H1,J,j,n⟩=>?_);refine wpAny_Slice (b6 (hl a i σ H1 _ J n) λvl g ⟨l,H2,G,p,m⟩=>b6 (hu a g σ H2 _ G m) λvu c ⟨u,d,D,o,k⟩=>?_);rw[evalPart_none];refine q05 ?_;have C:Inv X a σ d {c with heap:=c.heap.push {cls:=.type "slice",data:=.fields #[vl,vu,.none]} }:=D.kept (t':=c.toks) λb ob q=>Mx _ q;obtain⟨T,id,B,y,z⟩:=hr a {c with heap:=c.heap.push {cls:=.type "slice",data:=.fields #[vl,vu,.none]} } σ d x v vl vu l u c.heap.objs.size Q C j (Heap.IsSliceOf.new ..) p o k;show wpAny (model X.prog X.w) X.A (subscriptTail e (.Slice lo hi none p2) v (.ref c.heap.objs.size)) (EP X a σ Q) X.xe {c with heap:=c.heap.push {cls:=.type "slice",data:=.fields #[vl,vu,.none]} };exact tail_any (ops:=[.ref c.heap.objs.size,v]) y B z (by with_unfolding_all rfl)
def jW(xs:List V)(lo hi:Option Int):List V:=(xs.drop (HT.sIx xs.length 0 lo)).take (HT.sIx xs.length xs.length hi-HT.sIx xs.length 0 lo)
theorem mW(xs:List V)(lo hi:Option Int):(jW xs lo hi).length<=xs.length:=by
 unfold jW;rw[Nf,Ng];omega
def Hf(K:Nv):V->Option Int->Option Int->Hp->VK->Prop:=λx lo hi H Q=>∃a xs,x=.ref a/\cy K H a xs /\
 ¬ (HT.sIx xs.length 0 lo=0/\HT.sIx xs.length xs.length hi=xs.length)/\∀p,H p=none->Q (.ref p) (aD H p (.tup (jW xs lo hi)))
theorem Cv:IE X (Hf X.K):=by
 intro pins s σ H x v vl vu lo hi sl Q I rx hs pl pu h;obtain⟨a,d,rfl,j,k,q⟩:=h;cases rx;obtain⟨e,r,i,g⟩:=I.tuple j;have c:e.toArray.size=d.length:=by rw[MF];exact r.length.symm
 refine⟨"tuple",_,PyProof.Rows.slot_tuple_getitem.lookup,i.typeIs,?_⟩;refine HT.getItem_tuple_cut i hs pl pu (by rw[c];exact k) ?_ (by rw[c];exact g);rw[c];refine⟨.ref s.heap.objs.size,_,I.laid (t':=s.toks) (o:=.tup (jW d lo hi)) (λb ob q=>Mx _ q) (MY _) ?_,rfl,q _ (I.hok.fresh (MY _))⟩;exact⟨M9 (mW d lo hi) g,_,(r.drop (HT.sIx d.length 0 lo)).take (HT.sIx d.length d.length hi-HT.sIx d.length 0 lo),IsTup.new _ _⟩
def Fx(K:Nv):R2:=λx y H Q=>∃a b xs ys,x=.ref a/\y=.ref b/\cy K H a xs/\cy K H b ys/\xs≠[]/\xs.length+ys.length<=sizeLine /\
 (ys=[]->Q (.ref a) H)/\(ys≠[]->∀p,H p=none->Q (.ref p) (aD H p (.tup (xs++ys))))
theorem bj.nil_iff(r:bj xs us):us=[]↔xs=[]:=by
 cases r with
 |nil=>simp
 |cons _ _=>simp
theorem D':bC X (binaryOp .Add) (Fx X.K):=by
 intro pins s σ H x y v u Q I rx ry h;obtain⟨a,b,i,g,rfl,rfl,r,p,n,e,k,j⟩:=h;cases rx;cases ry;obtain⟨its,d,m,_⟩:=I.tuple r;obtain⟨its2,c,l,_⟩:=I.tuple p;refine HT.cat_tup m l (λz=>n (d.nil_iff.mp z)) (λz=>⟨.ref a,H,I,rfl,k (c.nil_iff.mp z)⟩) (λz=>?_) (by rw[<- d.length,<- c.length];exact e);refine⟨.ref s.heap.objs.size,_,I.laid (t':=s.toks) (o:=.tup (i++g)) (λb ob q=>Mx _ q) (MY _) ?_,rfl,j (λw=>z (c.nil_iff.mpr w)) _ (I.hok.fresh (MY _))⟩;exact⟨by rw[MX];exact e,_,d.append c,IsTup.new _ _⟩
end
def Hu(n:Nat)(i:Int):Option Nat:=if 0<=i then(if i<n then some i.toNat else none) else if -(n:Int)<=i then some (i+n).toNat else none
def je{α:Type}(xs:List α)(i:Int):Option α:=(Hu xs.length i).bind λj=>xs[j]?
theorem EX{n:Nat}{j:Nat}(h:Hu n i=some j):seqIndex? i n=some j/\j<n/\-(n:Int)<=i/\i<n:=by
 unfold Hu at h
 by_cases a:0<=i
 ·rw[q07 a]at h
  by_cases h1:i<n
  ·rw[q07 h1]at h
   have e:i.toNat=j:=q0S h;exact⟨by rw[seqIndex_of a h1,e],⋯,⋯,h1⟩
  ·rw[q06 h1]at h;cases h
 ·rw[q06 a]at h
  by_cases h1:-(n:Int)<=i
  ·rw[q07 h1]at h
   have e:(i+n).toNat=j:=q0S h;exact⟨by rw[seqIndex_neg ⋯ h1,e],⋯,h1,⋯⟩
  ·rw[q06 h1]at h;cases h
theorem uN{α:Type}{xs:List α}{v:α}(h:je xs i=some v):∃j,seqIndex? i xs.length=some j/\xs[j]?=some v/\j<xs.length/\-(xs.length:Int)<=i/\i<xs.length:=by
 unfold je at h;cases e:Hu xs.length i with
 |none=>rw[e]at h;cases h
 |some j=>
  rw[e]at h;obtain⟨h1,h2,b,a⟩:=EX e;exact⟨j,h1,h,h2,b,a⟩
theorem bJ{α:Type}{xs:List α}{j:Nat}{v:α}(h:xs[j]?=some v):je xs (j:Int)=some v:=by
 have hj:j<xs.length:=(Mw.mp h).1;have e:Hu xs.length (j:Int)=some j:=by
  unfold Hu;rw[q07 ⋯,q07 ⋯];simp
 unfold je;rw[e];exact h
def Ed(b:Expr):Prop:=∀o i,subscripted b false o i=operate [o,i] (getItem o i)
def Hk(X:Cx)(r:R2):Prop:=
 ∀(value slice:Expr) (pins:Nw) (s:Nz) (σ:St) (H:Hp) (x y:V) (v u:Value) (Q:VK),Inv X pins σ H s->bx x v->bx y u->r x y H Q ->
  subscripted slice false v u=operate [v,u] (getItem v u)->wpAny (model X.prog X.w) X.A (subscriptTail value slice v u) (EP X pins σ Q) X.xe s
def Jn(X:Cx)(id:String)(r:V->List V->Hp->VK->Prop):Prop:=
 ∀(pins:Nw) (s:Nz) (σ:St) (H:Hp) (x:V) (xs:List V) (v:Value) (us:NA) (Q:VK),Inv X pins σ H s->bx x v->bj xs us->r x xs H Q ->
  wpAny (model X.prog X.w) X.A (call (.builtin id) (v::us)) (EP X pins σ Q) X.xe s
section
variable {X:Cx}{a b:Expr}{ta tb:TE}{pos:Pos}
theorem aN(hr:Hk X r)(ha:PE X a ta)(hb:PE X b tb)(hs:Ed b):PE X (.Subscript a b pos) (GF r ta tb):=by
 intro c s σ H Q I h;exact Subscript_ (Gn ha hb I h λv u d x y H2 i g e q=>hr a b c d σ H2 x y v u Q i g e q (hs _ _))
def Bh(K:Nv):R2:=λx y H Q=>∃p xs i v,x=.ref p/\y=.int i/\aI K H p xs/\je xs i=some v/\Q v H
def xu(K:Nv):R2:=λx y H Q=>∃p xs i v,x=.ref p/\y=.int i/\cy K H p xs/\je xs i=some v/\Q v H
def GX:R2:=λx y H Q=>∃z i c,x=.str z/\y=.int i/\z.length<=sizeLine/\je z.cps.toList i=some c/\Q (.str ⟨#[c]⟩) H
theorem zL:Hk X (Bh X.K):=by
 intro value slice a s σ H x y v u Q I rx ry h hs;obtain⟨p,xs,i,z,rfl,rfl,m,o,q⟩:=h;cases rx;obtain⟨t,rfl⟩:=ry;obtain⟨d,r,c,hz⟩:=I.list m;obtain⟨j,h1,h2,h3,C,B⟩:=uN o;obtain⟨w,k,b⟩:=r.get h2;have n:=r.length;have hn:=mE;have dW:EP X a σ Q w s:=⟨z,H,I,b,q⟩
 by_cases g:0<=i
 ·have e:i.toNat=j:=by
   rw[seqIndex_of g B]at h1;exact q0S h1
  exact item_listR c.isList g ⋯ (by rw[e];simpa using k) dW hs
 ·have e:(i+(d.toArray.size:Int)).toNat=j:=by
   rw[seqIndex_neg ⋯ C]at h1;rw[MF,<- n];exact q0S h1
  exact subscriptTail_builtinR (x:=w) c.isList.typeIs slot_list_getitem.lookup
   (wpAny_getItem_list_neg (Q:=λr l=>r=w/\EP X a σ Q r l) c.isList ⋯ (by rw[MF]<;>omega) ⋯ (by rw[e];simpa using k) ⟨rfl,dW⟩) hs
theorem Dg:Hk X (xu X.K):=by
 intro value slice a s σ H x y v u Q I rx ry h hs;obtain⟨p,xs,i,z,rfl,rfl,e,k,q⟩:=h;cases rx;obtain⟨t,rfl⟩:=ry;obtain⟨its,r,c,hz⟩:=I.tuple e;obtain⟨j,h1,h2,h3,h4,h5⟩:=uN k;obtain⟨w,l,b⟩:=r.get h2;have g:=r.length;have hn:=mE;have dW:EP X a σ Q w s:=⟨z,H,I,b,q⟩;exact subscriptTail_builtinR (x:=w) c.typeIs slot_tuple_getitem.lookup
  (getItem_tuple (j:=j) (Q:=λr d=>r=w/\EP X a σ Q r d) c ⋯ ⋯ (by rw[MF,<- g];exact h1) (by simpa using l) ⟨rfl,dW⟩) hs
theorem lJ:Hk X GX:=by
 intro value slice pins s σ H x y v u Q I rx ry h hs;obtain⟨z,i,c,rfl,rfl,hz,b,q⟩:=h;obtain⟨t,rfl⟩:=rx;obtain⟨t',rfl⟩:=ry;obtain⟨j,h1,h2,h3,e,d⟩:=uN b;have a:z.cps.toList.length=z.length:=by simp[Str.length]
 rw[a]at h1 e d;have hn:=mE;exact tail_any (typeIs_str s z t) slot_str_getitem.lookup (getItem_str (c:=c) (by
  have k:decide (i < -(2 ^ 63:Int))=false:=q08 ⋯;have g:decide (i≥2 ^ 63)=false:=q08 ⋯;rw[k,g,Bool.or_false]) (by rw[h1];simpa using h2) ⟨.str ⟨#[c]⟩,H,I.tok _,⟨_,rfl⟩,q⟩) hs
theorem t5(lo hi:Option Int)(n:Nat):(sliceBounds lo hi none n).1=((HT.sIx n 0 lo:Nat):Int)/\(sliceBounds lo hi none n).2.1=((HT.sIx n n hi:Nat):Int)/\(sliceBounds lo hi none n).2.2=1:=by
 refine⟨?_,?_,rfl⟩
 ·cases lo with
  |none=>simp[sliceBounds,HT.sIx]
  |some i=>
   simp only[sliceBounds,HT.sIx,Option.getD_none,show(1:Int)>0 by decide,if_true]
   by_cases h:i<0
   ·simp only[h,if_true]<;>omega
   ·simp only[h,if_false]<;>omega
 ·cases hi with
  |none=>simp[sliceBounds,HT.sIx]
  |some i=>
   simp only[sliceBounds,HT.sIx,Option.getD_none,show(1:Int)>0 by decide,if_true]
   by_cases h:i<0
   ·simp only[h,if_true]<;>omega
   ·simp only[h,if_false]<;>omega
theorem qR(its:NA)(lo hi:Option Int):slicePick its.toArray lo hi none=((its.drop (HT.sIx its.length 0 lo)).take (HT.sIx its.length its.length hi-HT.sIx its.length 0 lo)).toArray:=by
 obtain⟨h1,h2,a⟩:=t5 lo hi its.toArray.size;unfold slicePick;rw[h1,h2,a];simp only[sliceRange_one,pick_run,MF]<;>rfl
def Hc(K:Nv):V->Option Int->Option Int->Hp->VK->Prop:=λx lo hi H Q=>∃a xs,x=.ref a/\aI K H a xs/\∀p,H p=none->Q (.ref p) (aD H p (.lst (jW xs lo hi)))
theorem oh:IE X (Hc X.K):=by
 intro pins s σ H x v vl vu lo hi sl Q I rx hs pl pu h;obtain⟨a,c,rfl,i,q⟩:=h;cases rx;obtain⟨its,r,e,g⟩:=I.list i;have d:=r.length;refine⟨"list",_,slot_list_getitem.lookup,e.isList.typeIs,?_⟩;refine wpAny_getItem_list_slice e.isList hs pl pu .none (by simp) ?_ (by rw[MF]<;>omega);rw[qR,<- d];refine⟨.ref s.heap.objs.size,_,I.laid (t':=s.toks) (o:=.lst (jW c lo hi)) (λb ob q=>Mx _ q) (MY _) ?_,rfl,q _ (I.hok.fresh (MY _))⟩;exact⟨M9 (mW c lo hi) g,_,0,(r.drop (HT.sIx c.length 0 lo)).take (HT.sIx c.length c.length hi-HT.sIx c.length 0 lo),ME _ rfl⟩
def r9:V->Bool
 | .non=>true
 | .bl _=>true
 | .int _=>true
 | .str _=>true
 |_=>false
def wU:V->V->Bool
 | .non,.non=>true
 | .bl a,.bl b=>a==b
 | .bl a,.int b=>(if a then 1 else 0)==b
 | .int a,.bl b=>a==(if b then 1 else 0)
 | .int a,.int b=>a==b
 | .str a,.str b=>a==b
 |_,_=>false
theorem gv(ry:bx y u)(rx:bx x v)(fy:r9 y=true)(fx:r9 x=true):SeqAt.EqAt A s u v (wU y x):=by
 cases y with
 |non=>
  cases ry;cases x with
  |non=>cases rx;exact SeqAt.EqAt.same _
  |bl b=>cases rx;exact SeqAt.EqAt.none_bool b
  |int b=>obtain⟨t,rfl⟩:=rx;exact SeqAt.EqAt.none_int b t
  |str b=>obtain⟨t,rfl⟩:=rx;exact SeqAt.EqAt.none_str b t
  |_=>exact q0Q (show false=true from fx) M3
 |bl a=>
  cases ry;cases x with
  |non=>cases rx;exact SeqAt.EqAt.bool_none a
  |bl b=>cases rx;exact SeqAt.EqAt.bool_bool a b
  |int b=>obtain⟨t,rfl⟩:=rx;exact SeqAt.EqAt.bool_int a b t
  |str b=>obtain⟨t,rfl⟩:=rx;exact SeqAt.EqAt.bool_str a b t
  |_=>exact q0Q (show false=true from fx) M3
 |int a=>
  obtain⟨c,rfl⟩:=ry;cases x with
  |non=>cases rx;exact SeqAt.EqAt.int_none a c
  |bl b=>cases rx;exact SeqAt.EqAt.int_bool a c b
  |int b=>obtain⟨t,rfl⟩:=rx;exact SeqAt.EqAt.int_int a c b t
  |str b=>obtain⟨t,rfl⟩:=rx;exact SeqAt.EqAt.int_str a c b t
  |_=>exact q0Q (show false=true from fx) M3
 |str a=>
  obtain⟨c,rfl⟩:=ry;cases x with
  |non=>cases rx;exact SeqAt.EqAt.str_none a c
  |bl b=>cases rx;exact SeqAt.EqAt.str_bool a c b
  |int b=>obtain⟨t,rfl⟩:=rx;exact SeqAt.EqAt.str_int a c b t
  |str b=>obtain⟨t,rfl⟩:=rx;exact SeqAt.EqAt.str_str a c b t
  |_=>exact q0Q (show false=true from fx) M3
 |_=>exact q0Q (show false=true from fy) M3
theorem k_:dH X (.builtin "len") (λxs H Q=>∃p ys,xs=[.ref p]/\(aI X.K H p ys\/cy X.K H p ys)/\Q (.int ys.length) H):=by
 intro pins s σ H xs us Q I r h;obtain⟨p,ys,rfl,hq,q⟩:=h;obtain⟨u,rfl,e⟩:=ow r;cases e;have hn:=mE;rcases hq with hq | hq
 ·obtain⟨d,b,c,g⟩:=I.list hq
  have a:=b.length;exact Calls.call_len_list c.isList (by simp only[MF]<;>omega) ⟨.int ys.length,H,I.tok _,⟨s.toks+1,by rw[MF,a]⟩,q⟩
 ·obtain⟨d,b,c,g⟩:=I.tuple hq
  have a:=b.length;exact len_tuple c (by simp only[MF]<;>omega) ⟨.int ys.length,H,I.tok _,⟨s.toks+1,by rw[MF,a]⟩,q⟩
theorem uV:dH X (.builtin "len") (λxs H Q=>∃z,xs=[.str z]/\z.length<=sizeLine/\Q (.int z.length) H):=by
 intro pins s σ H xs us Q I r h;obtain⟨z,rfl,hz,q⟩:=h;obtain⟨u,rfl,t,rfl⟩:=ow r;have hn:=mE;exact len_str ⋯ ⟨.int z.length,H,I.tok _,⟨_,rfl⟩,q⟩
theorem bR:dH X (.type "list") (λxs H Q=>∃p ys,xs=[.ref p]/\(aI X.K H p ys\/cy X.K H p ys)/\∀l,H l=none->Q (.ref l) (aD H l (.lst ys))):=by
 intro i s σ H xs us Q I r h;obtain⟨p,ys,rfl,hq,q⟩:=h;obtain⟨u,rfl,z⟩:=ow r;cases z;have dW:∀(a:NA),bj ys a->ys.length<=sizeLine->∀(c:Heap) (g:Nat),(∀b o',s.heap.get? b=some o'->c.get? b=some o') ->
   c.get? s.heap.objs.size=some {cls:=.type "list",dict:=none,data:=.seq a.toArray g,slots:=#[]}->EP X i σ Q (.ref s.heap.objs.size) {s with heap:=c }:=λa d j c g kp e=>
  ⟨.ref s.heap.objs.size,_,I.laid (t':=s.toks) kp (MY _) (show bU X.prog X.w _ c _ (.lst ys) from⟨j,a,g,d,e⟩),rfl,q _ (I.hok.fresh (MY _))⟩
 rcases hq with hq | hq
 ·obtain⟨a,d,m,j⟩:=I.list hq
  have k:=d.length;obtain⟨o,v,y,n,x⟩:=m.isList;exact call_list_seq p (.inl rfl) v y x (λc g kp e=>dW a d j c g kp e) (by simp only[MF]<;>omega)
 ·obtain⟨a,d,m,j⟩:=I.tuple hq
  have k:=d.length;obtain⟨o,v,y,n,x⟩:=m;exact call_list_seq p (.inr rfl) v y x (λc g kp e=>dW a d j c g kp e) (by simp only[MF]<;>omega)
theorem qB:dH X (.type "tuple") (λxs H Q=>∃p ys,xs=[.ref p]/\((aI X.K H p ys/\∀l,H l=none->Q (.ref l) (aD H l (.tup ys)))\/(cy X.K H p ys/\Q (.ref p) H))):=by
 intro a s σ H xs us Q I r h;obtain⟨p,ys,rfl,h⟩:=h;obtain⟨u,rfl,n⟩:=ow r;cases n;rcases h with⟨j,q⟩ | ⟨j,q⟩
 ·obtain⟨c,g,i,k⟩:=I.list j
  have hlen:=g.length;refine call_tuple_list i.isList (λd kp=>?_) (by simp only[MF]<;>omega);have m:Inv X a σ H {s with heap:=d }:=I.kept (t':=s.toks) kp;have v:Inv X a σ (aD H d.objs.size (.tup ys)) {s with heap:=d.push {cls:=.type "tuple",data:=.seq c.toArray} }:=
   m.laid (t':=s.toks) (λb o e=>Mx _ e) (MY _) (show bU X.prog X.w _ _ _ (.tup ys) from⟨k,c,g,IsTup.new _ _⟩)
  exact⟨.ref d.objs.size,_,v,rfl,q _ (m.hok.fresh (MY _))⟩
 ·obtain⟨c,g,i,k⟩:=I.tuple j
  exact call_tuple_same i ⟨.ref p,H,I,rfl,q⟩
def JR(K:Nv)(T:String)(x:V)(H:Hp):Prop:=match x with
 | .str _=>T="str"
 | .int _=>T="int"
 | .ref p=>(T="list"/\∃xs,aI K H p xs)\/(T="tuple"/\∃o,K.lookup p=some o/\o.cls=.type "tuple"/\o.dict=none) \/
   (T="dict"/\((∃kvs,H p=some (.dK kvs))\/∃kvs,H p=some (.dT kvs)))\/(T="set"/\∃S n,H p=some (.set S n))
 |_=>False
theorem F4{pins:Nw}{σ:St}(I:Inv X pins σ H s)(r:bx x v)(ty:JR X.K T x H) :
  s.TypeIs v T/\∀a,v=.ref a->∃ob,s.heap.get? a=some ob/\ob.dict=none:=by
 cases x with
 |str z=>
  obtain⟨t,rfl⟩:=r;cases(show T="str" from ty);exact⟨typeIs_str s z t,λ_ e=>nomatch e⟩
 |int i=>
  obtain⟨t,rfl⟩:=r;cases(show T="int" from ty);exact⟨typeIs_int s i t,λ_ e=>nomatch e⟩
 |ref p=>
  cases r;rcases ty with⟨rfl,xs,m⟩ | ⟨rfl,o,b,q,j⟩ | ⟨rfl,b⟩ | ⟨rfl,S,n,b⟩
  ·obtain⟨its,_,l,_⟩:=I.list m
   refine⟨l.isList.typeIs,λa e=>?_⟩;cases e;obtain⟨o,n,e,c,j,_⟩:=l;exact⟨o,e,j⟩
  ·refine⟨⟨o,I.kIn p o b,q⟩,λa e=>?_⟩
   cases e;exact⟨o,I.kIn _ o b,j⟩
  ·have z:∃o,s.heap.get? p=some o/\o.ExactDict:=by
    rcases b with⟨g,b⟩ | ⟨g,b⟩
    ·obtain⟨_,_,_,_,o,_,_,e,d,_⟩:=I.hok p _ b
     exact⟨o,e,d⟩
    ·obtain⟨_,_,_,_,o,_,_,e,d,_⟩:=I.hok p _ b
     exact⟨o,e,d⟩
   obtain⟨o,e,d⟩:=z;refine⟨⟨o,e,d.1⟩,λa k=>?_⟩;cases k;exact⟨o,e,d.2.1⟩
  ·obtain⟨o,_,_,_,e,d,_⟩:=I.hok p _ b
   refine⟨⟨o,e,d.1⟩,λa k=>?_⟩;cases k;exact⟨o,e,d.2.1⟩
 |_=>exact False.elim ty
def IF(K:Nv)(T:String)(r:V->List V->Hp->VK->Prop)(to:TE)(t:TA):TE:=λσ H Q=>to σ H λx H1=>JR K T x H1/\t σ H1 λxs H2=>r x xs H2 Q
variable {o e:Expr}{es:NL}{to:TE}{t:TA}{name:Str}{apos cpos:Pos}{T id:String}{r:V->List V->Hp->VK->Prop}
theorem dU(pa:PlainAttrs T)(slot:Slot T name id)(hty:typeOf (.builtin id)=pure (.type "method_descriptor"))(hm:Jn X id r)(ho:PE X o to)(ha:PA X (e::es) t)
  (hbase:autoParam (attributeBase o name X.env (eval o X.env)=eval o X.env) zz0._auto_1)
  (hfew:autoParam (((backTo cpos (starEach (e::es) X.env)).all (λx=>!x.1)&&(backToKw cpos (keywordEach [] X.env)).all (λx=>x.1.isSome)
   && decide ((e::es).length+([]:List Keyword).length+(if([]:List Keyword).isEmpty then 0 else 1)<30))=true) zz0._auto_1)
  (hline:autoParam ((apos.endLine==cpos.line)=true) zz0._auto_1) (hs:autoParam (starEach (e::es) X.env=(false,eval e X.env)::starEach es X.env) zz0._auto_1) (hplain:autoParam ((backTo cpos (starEach es X.env)).any (·.1)=false) zz0._auto_1) :
  PE X (.Call (.Attribute o name apos) (e::es) [] cpos) (IF X.K T r to t):=by
 intro a s σ H Q I h;refine wpAny_Call_method_late hbase hfew hline rfl (b6 (ho a s σ H _ I h) λv i ⟨x,H1,d,b,ty,l⟩=>?_);obtain⟨h1,h2⟩:=F4 d b ty;refine⟨T,id,pa,slot,hty,h1,h2,?_⟩;have c:=ha cpos a i σ H1 _ d l;rw[hs]at c ⊢;refine Calls.callWith_builtin (by show(false||(backTo cpos (starEach es X.env)).any (·.1))=false;rw[hplain]<;>rfl) (Calls.evalArgs_plain ?_);exact b6 c λus g ⟨vs,H2,m,j,k⟩=>hm a g σ H2 x vs v us Q m b j k
end
def Jo(X:Cx)(id:String)(r:V->List V->Hp->VK->Prop):Prop:=
 ∀(pins:Nw) (s:Nz) (σ:St) (H:Hp) (x:V) (xs:List V) (v:Value) (us:NA) (Q:VK),Inv X pins σ H s->bx x v->bj xs us->r x xs H Q ->
  wpAny (model X.prog X.w) X.A (call (.builtin id) (v::us)) (EP X pins σ Q) X.xe s
theorem bj.one{x:V}{us:NA}(h:bj [x] us):∃u,us=[u]/\bx x u:=by
 cases h with | cons r h=>cases h;exact⟨_,rfl,r⟩
theorem bj.two{x y:V}{us:NA}(h:bj [x,y] us):∃u v,us=[u,v]/\bx x u/\bx y v:=by
 cases h with | cons r h=>obtain⟨u,rfl,q⟩:=bj.one h;exact⟨_,_,rfl,r,q⟩
theorem bj.zero:∀{us:NA},bj [] us->us=[]
 |_,.nil=>rfl
section
variable {X:Cx}{pins:Nw}{σ:St}{H:Hp}{s:Nz}{l b:Addr}{xs ys zs:List V}
theorem Inv.lset{its its':NA}{f:Array Value->Array Value}{t':Nat}(I:Inv X pins σ H s)(hH:H l=some (.lst xs))
  (e:s.heap.get? l=some {cls:=.type "list",data:=.seq its.toArray n}) (hf:f its.toArray=its'.toArray) (hv:bj ys its') (hz:ys.length<=sizeLine) :
  Inv X pins σ (aD H l (.lst ys)) {s with heap:=s.heap.update l (Obj.mapSeq f),toks:=t' }:=by
 have q:=PySem.IsL.update e f;rw[hf]at q;refine I.write (x:=l) (e:=l) (by rw[hH];exact trivial) (.inl rfl) (λb' u b a=>(MD s.heap (Obj.mapSeq f) (Ne.symm b)).trans a) ⟨_,q⟩ ?_;exact⟨hz,its',_,hv,q⟩
theorem Inv.lnew{its:NA}{t':Nat}(I:Inv X pins σ H s)(hv:bj ys its)(hz:ys.length<=sizeLine) :
  Inv X pins σ (aD H s.heap.objs.size (.lst ys)) {s with heap:=s.heap.push {cls:=.type "list",data:=.seq its.toArray},toks:=t' }:=
 I.laid (λ_ _ q=>Mx _ q) (MY _) ⟨hz,its,0,hv,ME _ rfl⟩
theorem Inv.fresh(I:Inv X pins σ H s):H s.heap.objs.size=none:=I.hok.fresh (MY _)
theorem Inv.lstM(I:Inv X pins σ H s)(hH:H l=some (.lst xs)):xs.length<=sizeLine/\∃(its:NA) (n:Nat),bj xs its/\xs.length=its.length/\s.heap.get? l=some {cls:=.type "list",data:=.seq its.toArray n}:=by
 obtain⟨z,its,n,r,e⟩:=I.hok l _ hH;exact⟨z,its,n,r,r.length,e⟩
theorem Cq{n:Nat}(h:n<=sizeLine):Builtin.List.listTooLong n=false:=by
 unfold Builtin.List.listTooLong;exact q08 ⋯
end
section
variable {X:Cx}
def uQ:V->List V->Hp->VK->Prop:=λx vs H Q=>∃l xs y,x=.ref l/\vs=[y]/\H l=some (.lst xs)/\xs.length<sizeLine/\Q .non (aD H l (.lst (xs++[y])))
theorem rT:Jo X "list.append" uQ:=by
 intro pins s σ H x vs v us Q I rx rv h;obtain⟨l,xs,y,rfl,rfl,b,hz,q⟩:=h;cases rx;obtain⟨u,rfl,c⟩:=rv.one;obtain⟨z,a,n,r,hl,e⟩:=I.lstM b;refine call_meets F.slot_list_append ⟨_,e,rfl⟩ F.entry_list_append (F.args_list_append_2 _ _) (PySem.list_append l a.toArray n u (by rw[MF];omega)) ⟨e,?_⟩;refine⟨.non,_,I.lset (its':=a++[u]) b e (by simp) (r.append (.cons c .nil)) ?_,rfl,q⟩;rw[MX,q0Y];omega
theorem q03{e:Expr}{es:List Expr}{to:TE}{t:TA}{apos cpos:Pos}(ho:PE X o to)(ha:PA X (e::es) t)
  (hbase:autoParam (attributeBase o "append" X.env (eval o X.env)=eval o X.env) zz0._auto_1)
  (hfew:autoParam (((backTo cpos (starEach (e::es) X.env)).all (λx=>!x.1)&&(backToKw cpos (keywordEach [] X.env)).all (λx=>x.1.isSome)
   && decide ((e::es).length+([]:List Keyword).length+(if([]:List Keyword).isEmpty then 0 else 1)<30))=true) zz0._auto_1)
  (hline:autoParam ((apos.endLine==cpos.line)=true) zz0._auto_1) (hs:autoParam (starEach (e::es) X.env=(false,eval e X.env)::starEach es X.env) zz0._auto_1) (hplain:autoParam ((backTo cpos (starEach es X.env)).any (·.1)=false) zz0._auto_1) :
  PE X (.Call (.Attribute o "append" apos) (e::es) [] cpos) (IF X.K "list" uQ to t):=dU PySem.F.plainAttrs_list PySem.F.slot_list_append PySem.F.type_list_append rT ho ha hbase hfew hline hs hplain
def uY:V->List V->Hp->VK->Prop:=λx vs H Q=>∃l b xs zs,x=.ref l/\vs=[.ref b]/\H l=some (.lst xs)/\H b=some (.lst zs)/\xs.length+zs.length<=sizeLine/\Q .non (aD H l (.lst (xs++zs)))
theorem lT:Jo X "list.extend" uY:=by
 intro pins s σ H x vs v us Q I rx rv h;obtain⟨l,b,xs,zs,rfl,rfl,i,o,hz,q⟩:=h;cases rx;obtain⟨u,rfl,j⟩:=rv.one;cases j;obtain⟨z,c,n,r,hl,e⟩:=I.lstM i;obtain⟨z2,a,m,k,hl2,p⟩:=I.lstM o;have g:c.toArray.size+a.toArray.size<=sizeLine:=by rw[MF,MF];omega
 have d:¬ (!c.toArray.isEmpty&&Builtin.List.listTooLong (c.toArray.size+a.toArray.size))=true:=by
  rw[Cq g,Bool.and_false];exact M3
 refine call_meets F.slot_list_extend ⟨_,e,rfl⟩ F.entry_list_extend (F.args_list_extend_2 _ _)
  (AutoSeq1.list_extend_list_list_0 l c.toArray n b a.toArray m d (by rw[MF];omega) ⋯) ⟨e,p,?_⟩
 refine⟨.non,_,I.lset (its':=c++a) i e (by simp) (r.append k) ?_,rfl,q⟩;rw[MX];omega
def Gm:R2:=λx y H Q=>∃l b xs zs,x=.ref l/\y=.ref b/\H l=some (.lst xs)/\H b=some (.lst zs)/\xs.length+zs.length<=sizeLine/\∀p,H p=none->Q (.ref p) (aD H p (.lst (xs++zs)))
theorem xv:bC X (binaryOp .Add) Gm:=by
 intro pins s σ H x y v u Q I rx ry h;obtain⟨l,b,xs,zs,rfl,rfl,g,i,hz,q⟩:=h;cases rx;cases ry;obtain⟨z,c,n,r,hl,e⟩:=I.lstM g;obtain⟨z2,a,n2,d,hl2,k⟩:=I.lstM i;refine PySem.P.add_list e k ?_ (by rw[MF,MF];omega);have j:c.toArray++a.toArray=(c++a).toArray:=by simp
 rw[j];exact⟨.ref _,_,I.lnew (t':=s.toks) (r.append d) (by rw[MX];omega),rfl,q _ I.fresh⟩
end
section
variable {κ:Type}[DecidableEq κ]
def dQ(kvs:List (κ×V))(k:κ):Option V:=(kvs.find? λkv=>decide (kv.1=k)).map (·.2)
def dF(kvs:List (κ×V))(k:κ)(v:V):List (κ×V):=
 if(kvs.any λkv=>decide (kv.1=k))=true then kvs.map (λkv=>if kv.1=k then(kv.1,v) else kv) else kvs++[(k,v)]
theorem gy{p:κ×V}{r:List (κ×V)}{k:κ}(e:p.1=k):dQ (p::r) k=some p.2:=by simp[dQ,List.find?_cons,e]
theorem gL{p:κ×V}{r:List (κ×V)}{k:κ}(e:¬ p.1=k):dQ (p::r) k=dQ r k:=by simp[dQ,List.find?_cons,e]
theorem gC(k:κ):∀kvs:List (κ×V),(kvs.any λkv=>decide (kv.1=k))=(dQ kvs k).isSome
 | []=>rfl
 |p::r=>by
  rw[List.any_cons]
  by_cases e:p.1=k
  ·simp only[gy e,q09 e,Bool.true_or,Option.isSome_some]
  ·rw[gL e,q08 e,Bool.false_or];exact gC k r
theorem fW(kvs:List (κ×V))(k:κ)(v:V):(dF kvs k v).length<=kvs.length+1:=by
 unfold dF
 split
 ·rw[My];omega
 ·rw[MX,MM,List.length_nil];omega
theorem C_{kvs:List (κ×V)}{k:κ}(v:V)(h:dQ kvs k=none):dF kvs k v=kvs++[(k,v)]:=by
 unfold dF;rw[gC,h];exact q06 nofun
theorem iG.isSome_eq(r:iG o u):o.isSome=u.isSome:=by
 cases o with
 |none=>cases u with
  |none=>rfl
  |some _=>exact(show False from r).elim
 |some _=>cases u with
  |none=>exact(show False from r).elim
  |some _=>rfl
theorem iG.getD(r:iG o u)(rd:bx d d'):bx (o.getD d) (u.getD d'):=by
 cases o with
 |none=>cases u with
  |none=>exact rd
  |some _=>exact(show False from r).elim
 |some _=>cases u with
  |none=>exact(show False from r).elim
  |some _=>exact r
theorem KV.val{kvs:List (κ×V)}{vs:List (κ×Value)}(r:KV kvs vs)(k:κ):iG (dQ kvs k) (valueAt vs k):=by
 unfold KV at r
 induction r with
 |nil=>exact True.intro
 | @cons p q ps qs h t ih=>
  obtain⟨h1,h2⟩:=h
  by_cases e:p.1=k
  ·have a:q.1=k:=h1.symm.trans e
   have b:valueAt (q::qs) k=some q.2:=by simp[valueAt,List.find?_cons,a]
   rw[gy e,b];exact h2
  ·have a:¬ q.1=k:=λz=>e (h1.trans z)
   have b:valueAt (q::qs) k=valueAt qs k:=by simp[valueAt,List.find?_cons,a]
   rw[gL e,b];exact ih
theorem KV.any{kvs:List (κ×V)}{vs:List (κ×Value)}(r:KV kvs vs)(k:κ):(kvs.any λkv=>decide (kv.1=k))=vs.any λkv=>decide (kv.1=k):=by
 unfold KV at r
 induction r with
 |nil=>rfl
 |cons h t ih=>rw[List.any_cons,List.any_cons,ih,h.1]
theorem KV.repl{kvs:List (κ×V)}{vs:List (κ×Value)}(r:KV kvs vs)(k:κ){y:V}{u:Value}(ry:bx y u) :
  KV (kvs.map λkv=>if kv.1=k then(kv.1,y) else kv) (vs.map λkv=>if kv.1=k then(kv.1,u) else kv):=by
 unfold KV at r ⊢
 induction r with
 |nil=>exact .nil
 | @cons p q ps qs h t ih=>
  rw[M8,M8];refine .cons ?_ ih;obtain⟨h1,h2⟩:=h
  by_cases e:p.1=k
  ·rw[q07 e,q07 (h1.symm.trans e)];exact⟨h1,ry⟩
  ·rw[q06 e,q06 (λz=>e (h1.trans z))];exact⟨h1,h2⟩
theorem KV.put{kvs:List (κ×V)}{vs:List (κ×Value)}(r:KV kvs vs)(k:κ){y:V}{u:Value}(ry:bx y u):KV (dF kvs k y) (stored vs k u):=by
 unfold dF stored;rw[r.any k]
 by_cases e:(vs.any λa=>decide (a.1=k))=true
 ·rw[q07 e,q07 e];exact r.repl k ry
 ·rw[q06 e,q06 e];exact Paired.snoc r ⟨rfl,ry⟩
theorem KV.keys{kvs:List (κ×V)}{vs:List (κ×Value)}(r:KV kvs vs):kvs.map (·.1)=vs.map (·.1):=by
 unfold KV at r
 induction r with
 |nil=>rfl
 |cons h t ih=>rw[M8,M8,ih,h.1]
theorem KV.length{kvs:List (κ×V)}{vs:List (κ×Value)}(r:KV kvs vs):kvs.length=vs.length:=Paired.length r
end
theorem m_{u:Value}(r:bx (kV k) u):(bV P w).is k u=true:=by
 cases k with
 |inl i=>obtain⟨t,e⟩:=(show ∃t,u=Value.int i t from r);subst e;exact vK P w i t
 |inr x=>obtain⟨t,e⟩:=(show ∃t,u=Value.str x t from r);subst e;exact vZ P w x t
theorem rK:∀{ks:List c_} {us:NA},bj (ks.map kV) us->ItemsAre (bV P w) ks us
 | [],_,r=>by rw[List.map_nil]at r;cases r;exact .nil
 |k::ks,_,r=>by
  rw[M8]at r;cases r with
  |cons h t=>exact .cons (m_ h) (rK t)
abbrev KT(H:Hp):List (List c_×V)->List (List c_×Addr×Value)->Prop:=Paired λp q=>p.1=q.1/\H q.2.1=some (.tup (p.1.map kV))/\bx p.2 q.2.2
theorem KT.val(r:KT H kvs xs)(k:List c_):iG (dQ kvs k) ((atKey xs k).map (·.2)):=by
 induction r with
 |nil=>exact True.intro
 | @cons p q ps qs h t ih=>
  obtain⟨h1,_,h2⟩:=h
  by_cases e:p.1=k
  ·have a:q.1=k:=h1.symm.trans e
   have b:atKey (q::qs) k=some q.2:=by simp[atKey,List.find?_cons,a]
   rw[gy e,b];exact h2
  ·have a:¬ q.1=k:=λz=>e (h1.trans z)
   have b:atKey (q::qs) k=atKey qs k:=by simp[atKey,List.find?_cons,a]
   rw[gL e,b];exact ih
theorem KT.repl(r:KT H kvs xs)(k:List c_){y:V}{u:Value}(ry:bx y u) :
  KT H (kvs.map λkv=>if kv.1=k then(kv.1,y) else kv) (xs.map (putAt k u)):=by
 induction r with
 |nil=>exact .nil
 | @cons p q ps qs h t ih=>
  rw[M8,M8];refine .cons ?_ ih;obtain⟨h1,h2,a⟩:=h;unfold putAt
  by_cases e:p.1=k
  ·rw[q07 e,q07 (h1.symm.trans e)];exact⟨h1,h2,ry⟩
  ·rw[q06 e,q06 (λz=>e (h1.trans z))];exact⟨h1,h2,a⟩
theorem KT.put(r:KT H kvs xs)(k:List c_){b:Addr}{y:V}{u:Value}(hb:H b=some (.tup (k.map kV)))(ry:bx y u) :
  KT H (dF kvs k y) (storedH xs k b u):=by
 have e:(kvs.any λa=>decide (a.1=k))=(atKey xs k).isSome:=by
  rw[gC,(r.val k).isSome_eq,Option.isSome_map]
 unfold dF storedH;rw[e]
 by_cases q:(atKey xs k).isSome=true
 ·rw[q07 q,q07 q];exact r.repl k ry
 ·rw[q06 q,q06 q];exact Paired.snoc r ⟨rfl,hb,ry⟩
theorem KT.keeps{H':Hp}(r:KT H kvs xs)(ht:∀b ys,H b=some (.tup ys)->H' b=some (.tup ys)):KT H' kvs xs:=
 Paired.mapP r λ_ _ z=>⟨z.1,ht _ _ z.2.1,z.2.2⟩
section
variable {P:NF}{w:NJ}{H:Hp}{h:Heap}{a:Addr}
theorem Fv(ok:jA P w H h)(e:Rd H a u):bU P w H h a u:=e.ok ok
theorem mU(ok:jA P w H h)(e:Rd H a (.dK kvs)):kvs.length<=sizeLine/\(a==sysModules)=false/\∃vs,KV kvs vs/\h.DictOf (bV P w) a vs:=
 show bU P w H h a (.dK kvs) from Fv ok e
theorem rU(ok:jA P w H h)(e:H a=some (.dK kvs)):kvs.length<=sizeLine/\(a==sysModules)=false/\∃vs,KV kvs vs/\h.DictOf (bV P w) a vs:=mU ok (.inl e)
theorem mI{ks:List c_}(ok:jA P w H h)(e:H a=some (.tup (ks.map kV))):(tupleKind (bV P w)).is h ks a:=by
 obtain⟨_,b,r,o,h1,h2,n,c⟩:=(show bU P w H h a (.tup (ks.map kV)) from ok a _ e);exact⟨o,b.toArray,n,h1,h2,c,by simpa using rK r⟩
theorem o9(ok:jA P w H h)(e:Rd H a (.dT kvs)):kvs.length<=sizeLine/\(a==sysModules)=false /\
  ∃xs,KT H kvs xs/\h.DictOfH (tupleKind (bV P w)) a xs:=by
 obtain⟨z,y,xs,r,o,g,i,h1,h2,d,c,b⟩:=(show bU P w H h a (.dT kvs) from Fv ok e);refine⟨z,y,xs,r,o,g,i,h1,h2,d,c,λx hx=>?_,b⟩;have all:∀{l:List (List c_×V)} {m:List (List c_×Addr×Value)},KT H l m->∀x∈m,(tupleKind (bV P w)).is h x.1 x.2.1:=by
  intro l m q
  induction q with
  |nil=>intro x hx;exact nomatch hx
  | @cons p q ps qs hq t ih=>
   intro x hx;rcases MQ.mp hx with e | hx
   ·subst e
    exact mI ok (by rw[<- hq.1];exact hq.2.1)
   ·exact ih x hx
 exact all r x hx
theorem HV(ok:jA P w H h)(e:H a=some (.dT kvs)):kvs.length<=sizeLine/\(a==sysModules)=false /\
  ∃xs,KT H kvs xs/\h.DictOfH (tupleKind (bV P w)) a xs:=o9 ok (.inl e)
end
def kC(H:Hp)(a:Addr)(y:V)(r:Option V):Prop:=
 (∃kvs k,Rd H a (.dK kvs)/\y=kV k/\r=dQ kvs k)\/∃kvs k b,Rd H a (.dT kvs)/\y=.ref b/\H b=some (.tup (k.map kV))/\r=dQ kvs k
def Bs(H:Hp)(a:Addr)(y v:V)(H':Hp):Prop:=
 (∃kvs k,H a=some (.dK kvs)/\y=kV k/\kvs.length<sizeLine/\H'=aD H a (.dK (dF kvs k v))) \/
 ∃kvs k b,H a=some (.dT kvs)/\y=.ref b/\H b=some (.tup (k.map kV))/\kvs.length<sizeLine/\H'=aD H a (.dT (dF kvs k v))
theorem kC.t{H:Hp}{k:List c_}(e:H a=some (.dT kvs))(eb:H b=some (.tup (k.map kV))):kC H a (.ref b) (dQ kvs k):=.inr ⟨kvs,k,b,.inl e,rfl,eb,rfl⟩
theorem Bs.t{H:Hp}{k:List c_}{v:V}(e:H a=some (.dT kvs))(eb:H b=some (.tup (k.map kV)))(hl:kvs.length<sizeLine) :
  Bs H a (.ref b) v (aD H a (.dT (dF kvs k v))):=.inr ⟨kvs,k,b,e,rfl,eb,hl,rfl⟩
section
variable {X:Cx}{pins:Nw}{σ:St}{H:Hp}{s:Nz}{a:Addr}{y v:V}{u r:Value}{o:Option V}{A:NH}{E:Nu}
theorem Inv.big(I:Inv X pins σ H s):sysModules<s.heap.objs.size:=by
 have h:mainGlobals<s.heap.objs.size:=(I.mod.glob.keeps I.bk).lt;exact Nat.lt_trans nofun h
theorem Bu{Q:Nu}(hu:A.units+1<cLine)(I:Inv X pins σ H s)(g:kC H a y (some v))(ry:bx y u)(h:∀w' s',Inv X pins σ H s'->bx v w'->Q w' s') :
  wpAny (model X.prog X.w) A (getItem (.ref a) u) Q E s:=by
 rcases g with⟨i,k,e,n,l⟩ | ⟨i,k,b,e,n,B,l⟩
 ·subst n
  obtain⟨z,x,vs,d,q⟩:=mU I.hok e;obtain⟨w',j,c⟩:=iG.some_of (v:=v) (o:=valueAt vs k) (by rw[l];exact d.val k);exact wpAny_getItem_of (m_ ry) q.mapOf j (h w' _ (I.tok _) c)
 ·subst n
  cases(show u=Value.ref b from ry);obtain⟨z,x,r,d,q⟩:=o9 I.hok e;obtain⟨w',j,c⟩:=iG.some_of (v:=v) (o:=(atKey r k).map (·.2)) (by rw[l];exact d.val k);obtain⟨p,w,m⟩:=M5.mp j;refine wpAny_getItem_heap (tupleKind_room_in1 hu) (mI I.hok B) q w ?_;rw[m];exact h w' _ (I.tok _) c
theorem Jr{Q:Nu}(hu:A.units+1<cLine)(I:Inv X pins σ H s)(g:kC H a y o)(ry:bx y u)(h:∀s',Inv X pins σ H s'->Q (.bool o.isSome) s') :
  wpAny (model X.prog X.w) A (compareOp .In u (.ref a)) Q E s:=by
 rcases g with⟨d,k,e,j,l⟩ | ⟨d,k,b,e,j,n,l⟩
 ·subst j
  obtain⟨z,i,vs,c,m⟩:=mU I.hok e;refine wpAny_in_of (m_ ry) i m.mapOf ?_;rw[<- (c.val k).isSome_eq,<- l];exact h _ (I.tok _)
 ·subst j
  cases(show u=Value.ref b from ry);obtain⟨z,i,xs,c,m⟩:=o9 I.hok e;refine wpAny_in_heap (tupleKind_room_in1 hu) (mI I.hok n) i m ?_;have q:=(c.val k).isSome_eq;rw[Option.isSome_map]at q;rw[<- q,<- l];exact h _ (I.tok _)
theorem Ez{Q:Nu}(hu:A.units+1<cLine)(I:Inv X pins σ H s)(g:kC H a y o)(ry:bx y u)(h:∀s',Inv X pins σ H s'->Q (.bool (!o.isSome)) s') :
  wpAny (model X.prog X.w) A (compareOp .NotIn u (.ref a)) Q E s:=by
 rcases g with⟨d,k,e,j,l⟩ | ⟨d,k,b,e,j,n,l⟩
 ·subst j
  obtain⟨z,i,vs,c,m⟩:=mU I.hok e;refine wpAny_notIn_of (m_ ry) i m.mapOf ?_;rw[<- (c.val k).isSome_eq,<- l];exact h _ (I.tok _)
 ·subst j
  cases(show u=Value.ref b from ry);obtain⟨z,i,xs,c,m⟩:=o9 I.hok e;refine wpAny_notIn_heap (tupleKind_room_in1 hu) (mI I.hok n) i m ?_;have q:=(c.val k).isSome_eq;rw[Option.isSome_map]at q;rw[<- q,<- l];exact h _ (I.tok _)
theorem n_{t':Nat}{ob:HO}(I:Inv X pins σ H s)(mu:IA (H a))(hs:Heap.SameBut a s.heap h')(he:∃q,h'.get? a=some q)(new:bU X.prog X.w (aD H a ob) h' a ob) :
  Inv X pins σ (aD H a ob) {s with heap:=h',toks:=t' }:=
 I.write (x:=a) (e:=a) mu (.inl rfl) (λb q hb z=>(hs.2 b hb).trans z) he new
theorem xY{h':Heap}{kvs:List (c_×V)}(z:kvs.length<=sizeLine)(hd:(a==sysModules)=false)(rel:KV kvs vs)(dd:h'.DictOf (bV P w) a vs) :
  bU P w H' h' a (.dK kvs):=⟨z,hd,vs,rel,dd⟩
theorem Bm{Q:Unit->Shared->Prop}(hu:A.units+1<cLine)(I:Inv X pins σ H s)(g:Bs H a y v H')(ry:bx y u)(rv:bx v r)(h:∀s',Inv X pins σ H' s'->Q () s') :
  wpAny (model X.prog X.w) A (setItem (.ref a) u r) Q E s:=by
 rcases g with⟨i,k,e,x,l,B⟩ | ⟨i,k,b,e,x,J,l,B⟩
 ·subst x B
  obtain⟨z,w,vs,d,C⟩:=rU I.hok e;have n:vs.length<=sizeLine:=by rw[<- d.length];exact z
  have p:(dF i k v).length<=sizeLine:=by have:=fW i k v;omega
  refine wpAny_setItem_pairs (hsz:=n) (m_ ry) C λD j o=>h _ ?_;have M:∃q,D.get? a=some q:=let ⟨q,_,_,m,_⟩:=j;⟨q,m⟩
  exact n_ I (by rw[e];exact True.intro) o M (xY p w (d.put k rv) j)
 ·subst x B
  cases(show u=Value.ref b from ry);obtain⟨z,w,L,d,C⟩:=HV I.hok e;have n:L.length<=sizeLine:=by rw[<- Paired.length d];exact z
  have p:(dF i k v).length<=sizeLine:=by have:=fW i k v;omega
  refine wpAny_setItem_heap (hsz:=n) (tupleKind_room_in1 hu) (mI I.hok J) C λD j o=>h _ ?_;obtain⟨q,T,U,m,h2,S,R,_,O⟩:=j;refine n_ I (by rw[e];exact True.intro) o ⟨q,m⟩ ⟨p,w,_,(d.put k J rv).keeps λc ys G=>?_,q,T,U,m,h2,S,R,O⟩;rw[aq (rB G e (λz=>nomatch z))];exact G
end
section
variable {X:Cx}{pins:Nw}{σ:St}{H:Hp}{s:Nz}{a:Addr}{kvs:List (c_×V)}{k:c_}{u:Value}{A:NH}{E:Nu}
theorem Ik{Q:Nu}(I:Inv X pins σ H s)(e:Rd H a (.dK kvs))(h:∀t s',Inv X pins σ H s'->Q (.int kvs.length t) s'):wpAny (model X.prog X.w) A (call (.builtin "len") [.ref a]) Q E s:=by
 obtain⟨z,c,vs,b,d⟩:=mU I.hok e;refine call_len_dict c d (by rw[<- b.length];rw[q0V]at z;omega) ?_;rw[<- b.length];exact h _ _ (I.tok _)
end
def Ih(i:Expr):Prop:=∀ov iv,subscripted i false ov iv=operate [ov,iv] (getItem ov iv)
theorem Fh{prog:NF}{A:NH}{env:Env}{value slice:Expr}{pos:Pos}{id:String}{Q:Nu}
  (hl:typeLookup (.type T) "__getitem__"=pure (some (.builtin id))) (hs:Ih slice)
  (h:wpAny (model prog w) A (eval value env) (λo s₁=>wpAny (model prog w) A (eval slice env) (λi s₂=>s₂.TypeIs o T/\wpAny (model prog w) A (getItem o i) Q E s₂) E s₁) E s) :
  wpAny (model prog w) A (eval (.Subscript value slice pos) env) Q E s:=by
 refine Subscript_ (q0W h (λo s₁ e=>q0W e (λi s₂ a=>?_) λ_ _ x=>x) λ_ _ x=>x);obtain⟨c,a⟩:=a;unfold subscriptTail;refine q04 ?_;rw[getitemInPython_of_ne c.not_modules];refine q04 (wpAny_specialOf c hl ?_);have dW:wpAny (model prog w) A (subscripted slice false o i) (λr b=>wpAny (model prog w) A (letTemporaryGo value o r >>= λ_=>pure r) Q E b) E s₂:=by
  rw[hs o i];exact wpAny_operating (q0W a (λr b d=>q04 (wpAny_letTemporaryGo (q05 d))) λ_ _ x=>x)
 first
  |exact q05 (q04 dW)
  |exact q04 (q05 (q04 dW))
  |exact q04 dW
theorem wk{pins:Nw}{σ:St}(I:Inv X pins σ H s)(g:kC H a y o):s.TypeIs (.ref a) "dict":=by
 rcases g with⟨c,k,e,_,_⟩ | ⟨c,k,b,e,_,_,_⟩
 ·obtain⟨_,_,vs,_,d⟩:=mU I.hok e
  exact d.typeIs
 ·obtain⟨_,_,xs,_,d⟩:=o9 I.hok e
  exact d.typeIs
def B8(td ty:TE):TE:=λσ H Q=>td σ H λx H1=>ty σ H1 λy H2=>∃a v,x=.ref a/\kC H2 a y (some v)/\Q v H2
def Gq(ty td:TE):TE:=λσ H Q=>ty σ H λy H1=>td σ H1 λx H2=>∃a o,x=.ref a/\kC H2 a y o/\Q (.bl o.isSome) H2
def tz(ty td:TE):TE:=λσ H Q=>ty σ H λy H1=>td σ H1 λx H2=>∃a o,x=.ref a/\kC H2 a y o/\Q (.bl (!o.isSome)) H2
def Du(td ty tv:TE):TS:=λD σ H=>tv σ H λv H1=>td σ H1 λx H2=>ty σ H2 λy H3=>∃a H4,x=.ref a/\Bs H3 a y v H4/\D.nx σ H4
section
variable {X:Cx}{o i e value:Expr}{pos pos' tpos:Pos}{td ty tv:TE}
theorem kR(hu:X.A.units+1<cLine)(ho:PE X o td)(hi:PE X i ty)(hs:Ih i):PE X (.Subscript o i pos) (B8 td ty):=by
 intro b s σ H Q I h;refine Fh PySem.F.slot_dict_getitem.lookup hs (b6 (ho b s σ H _ I h) λu e ⟨x,H1,q,k,m⟩=>b6 (hi b e σ H1 _ q m) λiv s2 ⟨y,H2,d,j,a,v,n,g,l⟩=>?_);subst n;obtain rfl:u=Value.ref a:=k;exact⟨wk d g,Bu hu d g j λw' s3 p c=>⟨v,H2,p,c,l⟩⟩
theorem ye(hu:X.A.units+1<cLine)(hi:PE X i ty)(ho:PE X o td):PC X .In i o (Gq ty td):=by
 intro b s σ H Q I h;refine b6 (hi b s σ H _ I h) λiv c ⟨y,H1,q,d,k⟩=>b6 (ho b c σ H1 _ q k) λu s2 ⟨x,H2,p,e,a,l,m,g,j⟩=>?_;subst m;obtain rfl:u=Value.ref a:=e;exact Jr hu p g d λs3 n=>⟨.bl l.isSome,H2,n,rfl,j⟩
theorem lU(hu:X.A.units+1<cLine)(hi:PE X i ty)(ho:PE X o td):PC X .NotIn i o (tz ty td):=by
 intro b s σ H Q I h;refine b6 (hi b s σ H _ I h) λiv c ⟨y,H1,q,d,k⟩=>b6 (ho b c σ H1 _ q k) λu s2 ⟨x,H2,p,e,a,l,m,g,j⟩=>?_;subst m;obtain rfl:u=Value.ref a:=e;exact Ez hu p g d λs3 n=>⟨.bl (!l.isSome),H2,n,rfl,j⟩
theorem tJ(hu:X.A.units+1<cLine)(ho:PE X o td)(hi:PE X i ty)(hv:PE X value tv)(hs:swapsWith value (some (.Subscript o i pos')) pos.line X.env=pure false) :
  PS X (.Assign [.Subscript o i pos'] value pos) (Du td ty tv):=by
 intro b s σ H D I h;refine wpAny_Assign_Subscript (b6 (hv b s σ H _ I h) λr d ⟨v,H1,B,k,n⟩=>b6 (ho b d σ H1 _ B n) λu c ⟨x,H2,z,j,m⟩=>b6 (hi b c σ H2 _ z m) λiv s3 ⟨y,H3,w,e,a,C,p,g,l⟩=>?_) hs;subst p;obtain rfl:u=Value.ref a:=j;exact Bm hu w g e k λs4 q=>⟨σ,C,q,l⟩
end
theorem wz(h:Heap)(hb:sysModules<h.objs.size):bU P w H (h.push {cls:=.type "dict",data:=.dict #[]}) h.objs.size (.dK []):=
 ⟨MZ _,beq_eq_false_iff_ne.mpr (Ne.symm (MU hb)),[],.nil,Heap.DictOf.new h⟩
theorem D1(h:Heap)(hb:sysModules<h.objs.size):bU P w H (h.push {cls:=.type "dict",data:=.dict #[]}) h.objs.size (.dT []):=
 ⟨MZ _,beq_eq_false_iff_ne.mpr (Ne.symm (MU hb)),[],.nil,_,#[],0,ME _ rfl,⟨rfl,rfl,rfl⟩,rfl,rfl,List.nodup_nil⟩
def xX:TE:=λ_ H Q=>∀p,H p=none->Q (.ref p) (aD H p (.dK []))
def yD:TE:=λ_ H Q=>∀p,H p=none->Q (.ref p) (aD H p (.dT []))
section
variable {X:Cx}{pos:Pos}
theorem pR:PE X (.Dict [] [] pos) xX:=λpins s σ H Q I h=>
 wpAny_Dict_empty ⟨.ref s.heap.objs.size,_,I.laid (a:=s.heap.objs.size) (o:=.dK []) (t':=s.toks) (λ_ _ q=>Mx _ q) (MY _) (wz s.heap I.big),rfl,h _ (I.hok.fresh (MY _))⟩
theorem vh:PE X (.Dict [] [] pos) yD:=λpins s σ H Q I h=>
 wpAny_Dict_empty ⟨.ref s.heap.objs.size,_,I.laid (a:=s.heap.objs.size) (o:=.dT []) (t':=s.toks) (λ_ _ q=>Mx _ q) (MY _) (D1 s.heap I.big),rfl,h _ (I.hok.fresh (MY _))⟩
end
def oR:List (TE×TE)->St->Hp->(List (V×V)->Hp->Prop)->Prop
 | [],_,H,Q=>Q [] H
 | (tk,tv)::r,σ,H,Q=>tk σ H λx H1=>tv σ H1 λy H2=>oR r σ H2 λps H3=>Q ((x,y)::ps) H3
abbrev VV:List (V×V)->List (Value×Value)->Prop:=Paired λp q=>bx p.1 q.1/\bx p.2 q.2
def IS(X:Cx)(pos:Pos)(keys:List (Option Expr))(values:NL)(trs:List (TE×TE)):Prop:=
 ∀(pins:Nw) (s:Nz) (σ:St) (H:Hp) (Q:List (V×V)->Hp->Prop),Inv X pins σ H s->oR trs σ H Q ->
  wpAny (model X.prog X.w) X.A (evalPairs (pairTrees keys values X.env pos)) (λvs s'=>∃ps H',Inv X pins σ H' s'/\VV ps vs/\Q ps H') X.xe s
theorem EJ{pos:Pos}:IS X pos [] [] []:=λpins s σ H Q I h=>pairTrees_nil_walk ⟨[],H,I,.nil,h⟩
theorem Dy{pos:Pos}{k v:Expr}{ks:List (Option Expr)}{tk tv:TE}{trs:List (TE×TE)}(hk:PE X k tk)(hv:PE X v tv)(hr:IS X pos ks vs trs) :
  IS X pos (some k::ks) (v::vs) ((tk,tv)::trs):=λpins s σ H Q I h=>
 pairTrees_cons_walk (b6 (hk pins s σ H _ I h) λu s1 ⟨x,H1,I1,rx,q1⟩=>b6 (hv pins s1 σ H1 _ I1 q1) λw2 s2 ⟨y,H2,I2,ry,q2⟩=>
  b6 (hr pins s2 σ H2 _ I2 q2) λws s3 ⟨ps,H3,I3,rel,q3⟩=>⟨(x,y)::ps,H3,I3,.cons ⟨rx,ry⟩ rel,q3⟩)
def oy(kvs more:List (c_×V)):List (c_×V):=more.foldl (λacc kv=>dF acc kv.1 kv.2) kvs
theorem KV.merge:∀{more:List (c_×V)} {rs:List (c_×Value)} {kvs:List (c_×V)} {vs:List (c_×Value)},KV more rs->KV kvs vs->KV (oy kvs more) (merged vs rs):=by
 intro more rs kvs vs r;unfold KV at r
 induction r generalizing kvs vs with
 |nil=>intro q;exact q
 | @cons p q ps qs h t ih=>
  intro a;have e:KV (dF kvs p.1 p.2) (stored vs q.1 q.2):=by
   have:=a.put p.1 h.2;rw[<- h.1];exact this
  exact ih e
theorem jK:∀(more kvs:List (c_×V)),(oy kvs more).length<=kvs.length+more.length
 | [],kvs=>by show kvs.length<=kvs.length+0;omega
 |p::r,kvs=>by
  have h1:=jK r (dF kvs p.1 p.2);have h2:=fW kvs p.1 p.2;show(oy (dF kvs p.1 p.2) r).length<=_;rw[MM];omega
theorem pM:∀{kvs:List (c_×V)} {ws:List (Value×Value)},VV (kvs.map λkv=>(kV kv.1,kv.2)) ws->∃rs,Carries (bV P w) ws rs/\KV kvs rs
 | [],_,r=>by rw[List.map_nil]at r;cases r;exact⟨[],True.intro,.nil⟩
 |p::kvs,_,r=>by
  rw[M8]at r;cases r with
  | @cons a b as bs h t=>
   obtain⟨rs,c,q⟩:=pM (P:=P) (w:=w) t;obtain⟨b1,b2⟩:=b;exact⟨(p.1,b2)::rs,⟨m_ h.1,rfl,c⟩,.cons ⟨rfl,h.2⟩ q⟩
def DG(trs:List (TE×TE)):TE:=λσ H Q=>∀p,H p=none->oR trs σ (aD H p (.dK [])) λps H2=>H2 p=some (.dK [])/\∃kvs:List (c_×V),ps=kvs.map (λkv=>(kV kv.1,kv.2))/\kvs.length<=15/\Q (.ref p) (aD H2 p (.dK (oy [] kvs)))
theorem D3{pos:Pos}{keys:List (Option Expr)}{values:NL}{trs:List (TE×TE)}(h:IS X pos keys values trs)(hall:keys.all (·.isSome)=true)(hl:keys.length=values.length)(h0:keys≠[])
  (h15:keys.length<=15):PE X (.Dict keys values pos) (DG trs):=by
 intro b s σ H Q I q;have r:=I.hok.fresh (MY s.heap.objs.size);have B:=I.laid (a:=s.heap.objs.size) (o:=.dK []) (h':=s.heap.push {cls:=.type "dict",data:=.dict #[]}) (t':=s.toks) (λ_ _ q=>Mx _ q) (MY _) (wz s.heap I.big);refine wpAny_Dict_walk (knd:=bV X.prog X.w) hall hl h0 h15 (b6 (h b _ σ _ _ B (q _ r)) λws s2 ⟨ps,H2,j,i,e,d,x,lk,m⟩=>?_);subst x;obtain⟨k,c,rk⟩:=pM (P:=X.prog) (w:=X.w) i;obtain⟨z,v,vs0,l,y⟩:=rU j.hok e;cases l;refine⟨k,c,y,λh' g p=>⟨.ref s.heap.objs.size,_,?_,rfl,m⟩⟩;have n:(oy [] d).length<=sizeLine:=by
  have h1:=jK d [];rw[List.length_nil]at h1;rw[q0V];omega
 have u:∃q,h'.get? s.heap.objs.size=some q:=let ⟨q,_,_,hq,_⟩:=g;⟨q,hq⟩
 exact n_ j (by rw[e];exact True.intro) p u (xY n v (rk.merge .nil) g)
structure M1(X:Cx)(o:Expr)(m:Str)(apos:Pos)(e:Expr)(cpos:Pos):Prop where
 base:attributeBase o m X.env (eval o X.env)=eval o X.env
 few:((backTo cpos (starEach [e] X.env)).all (λx=>!x.1)&&(backToKw cpos (keywordEach [] X.env)).all (λx=>x.1.isSome)
  && decide (([e]:List Expr).length+([]:List Keyword).length+(if([]:List Keyword).isEmpty then 0 else 1)<30))=true
 line:(apos.endLine==cpos.line)=true
 trees:backTo cpos (starEach [e] X.env)=[(false,eval e X.env)]
structure M2(X:Cx)(o:Expr)(m:Str)(apos:Pos)(e f:Expr)(cpos:Pos):Prop where
 base:attributeBase o m X.env (eval o X.env)=eval o X.env
 few:((backTo cpos (starEach [e,f] X.env)).all (λx=>!x.1)&&(backToKw cpos (keywordEach [] X.env)).all (λx=>x.1.isSome)
  && decide (([e,f]:List Expr).length+([]:List Keyword).length+(if([]:List Keyword).isEmpty then 0 else 1)<30))=true
 line:(apos.endLine==cpos.line)=true
 trees:backTo cpos (starEach [e,f] X.env)=[(false,eval e X.env),(false,eval f X.env)]
def IT(H:Hp)(a:Addr):Prop:=(∃kvs,Rd H a (.dK kvs))\/∃kvs,Rd H a (.dT kvs)
theorem xZ{pins:Nw}{σ:St}(I:Inv X pins σ H s)(d:IT H a) :
  s.TypeIs (.ref a) "dict"/\(∀b,Value.ref a=.ref b->∃ob,s.heap.get? b=some ob/\ob.dict=none)/\(a==sysModules)=false:=by
 rcases d with⟨g,e⟩ | ⟨g,e⟩
 ·obtain⟨_,i,vs,_,c⟩:=mU I.hok e
  refine⟨c.typeIs,λb q=>?_,i⟩;cases q;obtain⟨ob,_,_,h1,h2,_⟩:=c;exact⟨ob,h1,h2.2.1⟩
 ·obtain⟨_,i,xs,_,c⟩:=o9 I.hok e
  refine⟨c.typeIs,λb q=>?_,i⟩;cases q;obtain⟨ob,_,_,h1,h2,_⟩:=c;exact⟨ob,h1,h2.2.1⟩
section
variable {X:Cx}{pins:Nw}{σ:St}{H:Hp}{s:Nz}{a:Addr}{y d:V}{u r:Value}{o:Option V}{A:NH}{E:Nu}
theorem F_{Q:Nu}(hu:A.units+1<cLine)(I:Inv X pins σ H s)(g:kC H a y o)(ry:bx y u)(h:∀w' s',Inv X pins σ H s'->bx (o.getD .non) w'->Q w' s') :
  wpAny (model X.prog X.w) A (call (.builtin "dict.get") [.ref a,u]) Q E s:=by
 rcases g with⟨i,k,e,m,l⟩ | ⟨i,k,b,e,m,p,l⟩
 ·subst m
  obtain⟨z,j,vs,c,d⟩:=mU I.hok e;refine call_meetsIn PySem.F.slot_dict_get d.typeIs PySem.F.entry_dict_get (PySem.F.args_dict_get_2 _ _) (meets_dict_get (bV X.prog X.w) a (m_ ry) j) ⟨_,d.mapOf,h _ _ (I.tok _) ?_⟩;rw[l];exact(c.val k).getD rfl
 ·subst m
  cases(show u=Value.ref b from ry);obtain⟨z,j,n,c,d⟩:=o9 I.hok e;refine call_meetsIn PySem.F.slot_dict_get d.typeIs PySem.F.entry_dict_get (PySem.F.args_dict_get_2 _ _) (meetsH_dict_get (tupleKind (bV X.prog X.w)) a b j) ⟨tupleKind_room_in1 hu,k,n,mI I.hok p,d,h _ _ (I.tok _) ?_⟩;rw[l];exact(c.val k).getD rfl
end
def xi(td ty:TE):TE:=λσ H Q=>td σ H λx H1=>∃a,x=.ref a/\IT H1 a/\ty σ H1 λy H2=>∃o,kC H2 a y o/\Q (o.getD .non) H2
section
variable {X:Cx}{o e f:Expr}{apos cpos:Pos}{td ty tx:TE}
theorem CL(hu:X.A.units+1<cLine)(ho:PE X o td)(he:PE X e ty)(m:M1 X o "get" apos e cpos):PE X (.Call (.Attribute o "get" apos) [e] [] cpos) (xi td ty):=by
 intro b s σ H Q I h;refine wpAny_Call_method m.base m.few m.line PySem.F.plainAttrs_dict PySem.F.slot_dict_get PySem.F.type_dict_get (b6 (ho b s σ H _ I h) λu l ⟨x,H1,i,p,a,v,d,r⟩=>?_);subst v;obtain rfl:u=Value.ref a:=p;obtain⟨k,j,_⟩:=xZ i d;refine⟨k,j,?_⟩;rw[m.trees];refine Calls.callWith_builtin rfl (Calls.evalArgs_plain (Calls.spliced_cons (b6 (he b l σ H1 _ i r) λiv s2 ⟨y,H2,z,n,ov,g,q⟩=>Calls.spliced_nil ?_)));exact F_ hu z g n λw' s3 w c=>⟨_,H2,w,c,q⟩
end
end L2
namespace Att
open PySem PySem.W PySem.Calls PyProof.Rows
theorem nU:∀(ns:List Int) (vs:NA),WellAll P h vs (ns.map WData.int)->IntsAre vs ns:=by
 intro ns
 induction ns with
 |nil=>
  intro vs w;rw[List.map_nil]at w;cases w;exact .nil
 |cons n ns ih=>
  intro vs w;rw[M8]at w;cases w with
  |cons a b=>
   cases a;exact .cons _ _ (ih _ b)
theorem Bi{l:OpenLaw}{n:Nat}(hn:l.most=some n){P:Params}{h:Heap}{args:List WData}{vals:NA}
  (hpre:l.row.toRowW.claim.pre args=true) (hwl:WellAll P h vals args) :
  ∃a vs ns,vals=[Value.ref a]/\args=[WData.list (ns.map WData.int)]/\h.get? a=some {cls:=.type "list",data:=.seq vs.toArray}/\IntsAre vs ns/\ns.length<=n:=by
 have g:WShape.hasAll [] args [.list .int]=true:=(pre_splitW hpre).1;have i:l.pre.holds [] {args:=args}=true:=(pre_splitW hpre).2;obtain⟨d,r,rfl,h1,h2⟩:=hasAllW_cons g;obtain rfl:=hasAllW_nil h2;obtain⟨xs,rfl,k⟩:=hasW_list h1;obtain⟨ns,rfl⟩:=items_int k;have b:ns.length<=n:=by
  unfold OpenLaw.pre at i;have e:(WTm.not (.lt (.lit (.int (n:Int))) (.len (.arg 0)))).holds [] {args:=[.list (ns.map .int)]}=true:=by
   have e:=(holds_andW i).1;rw[hn]at e;exact e
  have c:=condW_of e (w_not (w_lt w_lit (w_len_list (w_arg rfl))));rw[My]at c;refine Nat.le_of_not_lt λq=>?_;have j:(n:Int)<((ns.length:Nat):Int):=by omega
  first
   | (rw[q09 j]at c;exact q0Q c nofun)
   | (simp at c;omega)
 cases hwl with
 |cons w1 w2=>
  cases w2;cases w1 with
  |list ho hall=>exact⟨_,_,ns,rfl,rfl,ho,nU ns _ hall,b⟩
theorem z_(l:OpenLaw)(args:List WData):l.row.toRowW.claim.post args (.bool true) args=true:=
 postW_of (r:=l.row.toRowW) (X:=(true==true))
  (show WShape.has [] (.bool true) .bool=true by first | rfl | decide | simp[WShape.has,WShape.arms,WShape.armsAll])
  (show(WTm.eq .res (.lit (.bool true))).value [] {args:=args,res:=some (.bool true),after:=args}=some (.bool (true==true)) from w_eq_bool (w_res rfl) w_lit) rfl
theorem attach_call{l:OpenLaw}{n:Nat}{loose:NG}{XP:(Str->Option Value)->Heap->Prop}{YP:World->Heap->Prop}{d:DefRec}
  (hn:l.most=some n) (hdf:d.params.defaults=[])
  (call:∀(w:NJ) (s₀ s₁:Nz) (mg mb:ND) (fa:Addr) (o:Obj) (pm cd doc:Value) (a:Addr) (vs:NA) (ns:List Int),
   Ground q loose [] XP w s₀ mg mb s₁.heap->YP w s₁.heap ->
   s₁.heap.get? fa=some o->o.data=.func (docDef d.name d.params d.body d.scope pm cd doc)->s₁.heap.CodeRec cd d.name->mg d.name=some (.ref fa) ->
   s₁.heap.get? a=some {cls:=.type "list",data:=.seq vs.toArray}->IntsAre vs ns->ns.length<=n->s₁.gens=#[] ->
   codeAny (model l.prog w) callerA (.call (.ref fa) ⟨[.ref a],[]⟩) (λr s'=>r=.ok (.ret (.bool true))/\OldK s₁.heap s'.heap/\s'.os=s₁.os/\AllBare s'.gens) s₁) :
  WalkO q loose XP YP l.row.toRowW d [] (λf vs=>PySem.call f vs):=by
 intro w s₀ s₁ mg mb G Y fa o pm cd doc C kV u y k m j x args vals as c hlay hrd i hlo;obtain rfl:C=.none:=Dflts.none m hdf;obtain rfl:kV=.none:=Dflts.noKw m;obtain⟨a,vs,ns,rfl,rfl,e,b,g⟩:=Bi hn c i;refine enter_call (codeAny_mono (call w s₀ s₁ mg mb fa o pm cd doc a vs ns G Y u (fd_plain y) k j e b g x) λr s' p=>?_);obtain⟨rfl,h2,B,z⟩:=p;exact⟨.inl ⟨.bool true,.bool true,[],rfl,λ_=>rfl,.bool true,z_ l _,λ_=>⟨List.Pairwise.nil,λ_ v=>(nomatch v)⟩⟩,h2,B,z⟩
section
variable {prog:NF}{w:NJ}{A:NH}{E:Nu}{s:Nz}{K:Frag}
end
end Att
namespace L2
open PySem PySem.Spec PyProof.Rows
theorem rn:∀{vs:NA} {ns:List Int},IntsAre vs ns->bj (ns.map V.int) vs
 |_,_,.nil=>.nil
 |_,_,.cons n t h=>.cons ⟨t,rfl⟩ (rn h)
def FX(H:Hp):Prop:=∀b,H b=none\/∃o xs,H b=some (.frz o (.lst xs))
theorem DU{K:Nv}{mg mb:ND}{CX:iI}{fa a:Addr}{x:Str}{sp:Sp}{s₁:Nz}{vs:NA}{ns:List Int}
  (KX:K.In s₁.heap) (hns:s₁.heap.Ns mainGlobals mg) (hb:s₁.heap.Ns builtinsNs mb) (hbb:∀x:Str,x≠"__name__"->mb x=bootBuiltins x) (hlim:s₁.heap.NoLimit) (hg:s₁.gens=#[])
  (ha:s₁.heap.get? a=some {cls:=.type "list",data:=.seq vs.toArray}) (hi:IntsAre vs ns) (hl:ns.length<=sizeLine) (hr:cO k callerA)
  (F:∀base:Heap,K.In base->base.Ns mainGlobals mg->aV P w K mg base CX k fa fd [x] sp) (hbind:∀(s:Nz) (u:Value),BindsTo s fd ⟨[u],[]⟩ [(x,u)])
  (hsp:∀H:Hp,FX H->aI K H a (ns.map V.int)->sp [.ref a] H (λv _=>v=.bl true) λ_ _ _=>False)
  (hCX:∀H e s',CX [] H s₁ (λ_ _ _=>False) e s'->False) :
  codeAny (model P w) callerA (.call (.ref fa) ⟨[.ref a],[]⟩) (λr s'=>r=.ok (.ret (.bool true))/\OldK s₁.heap s'.heap/\s'.os=s₁.os/\AllBare s'.gens) s₁:=by
 have J:=rn hi;have l:=hi.length
 -- from an abstract heap in which nothing but the script may be tracked
 have i:∀H:Hp,FX H->aI K H a (ns.map V.int)->jA P w H s₁.heap->(∀b,H b≠none->b=a)->(H a≠none->K.lookup a=none) ->
   codeAny (model P w) callerA (.call (.ref fa) ⟨[.ref a],[]⟩) (λr s'=>r=.ok (.ret (.bool true))/\OldK s₁.heap s'.heap/\s'.os=s₁.os/\AllBare s'.gens) s₁:=by
  intro H L Y y M hK;have c:∀{b:Addr} {o:Obj},s₁.heap.get? b=some o->H b=none->(uL s₁.heap H).get? b=some o:=λe n=>BT e n;have D:∀{b:Addr} {o:Obj} {es:Array DictEntry} {ep:Nat},s₁.heap.get? b=some o->o.data=.dict es ep->H b=none:=fun{b o es ep} e d=>by
   cases q:H b with
   |none=>rfl
   |some u=>
    have I:b=a:=M b (by rw[q];simp);subst I;rw[ha]at e;cases e
    have d':Data.seq vs.toArray _=Data.dict es ep:=d;cases d'
  have g:∀{b:Addr} {m:ND},s₁.heap.Ns b m->(uL s₁.heap H).Ns b m:=fun{b m} ⟨o,es,ep,e,d,r⟩=>⟨o,es,ep,c e (D e d),d,r⟩;have B:K.In (uL s₁.heap H):=λb o e=>c (KX b o e) (by
   cases q:H b with
   |none=>rfl
   |some u=>
    have I:b=a:=M b (by rw[q];simp);subst I;rw[hK (by rw[q];simp)]at e;cases e)
  have Z:Mod K mg (uL s₁.heap H):=⟨B,g hns,⟨mb,g hb,hbb⟩,let ⟨mc,h1,h2⟩:=hlim;⟨mc,g h1,h2⟩⟩;have e0:pH P w K mg (uL s₁.heap H) callerA [] s₁ H:=⟨rfl,Z,λb o e=>Fj e,Nat.le_of_eq (zT _ _),trivial,λb hb=>q0Q (show b∈([]:List Addr) from hb) (by simp),y,.of_eq hg⟩;refine codeAny_mono ((F _ B (g hns)).run callerA [] s₁ H ⟨[.ref a],[]⟩ [.ref a] [.ref a] _ _ hr e0 (hbind s₁ (.ref a)) (.cons rfl .nil) (hsp H L Y)) λr s' h=>?_;cases r with
  |error e=>exact(hCX H e s' h).elim
  |ok fl=>
   cases fl with
   |next=>exact False.elim h
   |brk=>exact False.elim h
   |cont=>exact False.elim h
   |ret u=>
    obtain⟨v,H',os,C,un,p,S,q⟩:=h;have T:v=.bl true:=q;subst T;obtain rfl:u=Value.bool true:=S;refine⟨rfl,OldK.of_keep λb o e=>?_,os,C⟩;cases q:H b with
    |none=>exact un.keep b o e q (by intro z;exact q0Q (show b∈([]:List Addr) from z) (by simp)) (by simp)
    |some u=>
     rcases L b with z | ⟨U,xs,z⟩
     ·rw[q]at z;cases z
     ·have R:=un.frzs b U _ z
      obtain⟨O,_⟩:=y b _ z;obtain⟨e2,_⟩:=p b _ R;rw[e]at O;cases O
      exact e2
 cases G:K.lookup a with
 |some o=>
  -- the script is one of the module's own objects
  have e:=KX a o G;rw[ha]at e;cases e;refine i (λ_=>none) (λ_=>.inl rfl) (.inr ⟨_,vs.toArray,_,G,rfl,rfl,rfl,by rw[MF,l];exact hl,by simpa using J⟩) (λb u z=>by have j:(none:Option HO)=some u:=z;cases j) (λb z=>q0Q rfl z) λz=>q0Q rfl z
 |none=>
  refine i (λb=>if b=a then some (.frz {cls:=.type "list",data:=.seq vs.toArray} (.lst (ns.map V.int))) else none) (λb=>?_) (.inl (.inr ⟨{cls:=.type "list",data:=.seq vs.toArray},q07 rfl⟩)) (λb u z=>?_) (λb z=>?_) λ_=>G
  ·by_cases hb:b=a
   ·exact .inr ⟨_,_,q07 hb⟩
   ·exact .inl (q06 hb)
  ·by_cases hb:b=a
   ·have j:=(q07 hb).symm.trans z
    cases j;subst hb;exact⟨ha,by rw[My];exact hl,vs,_,J,ha⟩
   ·have j:=(q06 hb).symm.trans z
    cases j
  ·by_cases hb:b=a
   ·exact hb
   ·exact q0Q (q06 hb) z
theorem walk_of{l:PySem.W.OpenLaw}{n:Nat}{loose:NG}{XP:(Str->Option Value)->Heap->Prop}{YP:World->Heap->Prop}{d:DefRec}{K:Params->PySem.W.Frag}{CX:World->iI}{sp:World->Sp}{x:Str}
  (hn:l.most=some n) (hn2:n<=sizeLine) (hdf:d.params.defaults=[]) (hr:cO k callerA)
  (hY:∀(w:NJ) (h:Heap),YP w h->(K w.params).In h)
  (F:∀(w:NJ) (mg:ND) (fa:Addr) (h:Heap),(K w.params).In h->h.Ns mainGlobals mg->mg d.name=some (.ref fa) ->
   ∃fd:FuncData,(∀(s:Nz) (u:Value),BindsTo s fd ⟨[u],[]⟩ [(x,u)]) /\
    ∀base:Heap,(K w.params).In base->base.Ns mainGlobals mg->aV l.prog w (K w.params) mg base (CX w) k fa fd [x] (sp w))
  (hsp:∀(w:NJ) (H:Hp) (a:Addr) (ns:List Int),ns.length<=n->FX H->aI (K w.params) H a (ns.map V.int)->sp w [.ref a] H (λv _=>v=.bl true) λ_ _ _=>False)
  (hCX:∀(w:NJ) (H:Hp) (s:Nz) (e:Value) (s':Nz),CX w [] H s (λ_ _ _=>False) e s'->False) :
  PySem.W.WalkO q loose XP YP l.row.toRowW d [] (λf vs=>PySem.call f vs):=by
 refine Att.attach_call hn hdf λw s₀ r mg mb fa o pm cd doc a vs ns G Y ho hd hcd m j i c y=>?_;have p:=hY w _ Y;obtain⟨fd,z,D⟩:=F w mg fa _ p G.T.g m;exact DU p G.T.g G.T.b G.T.builtins G.T.nolimit y j i (M9 c hn2) hr D z (λH C B=>hsp w H a ns c C B) λH e s'=>hCX w H r e s'
def cZ(s:Stmt):Arguments:=match s with
 | .FunctionDef _ a _ _ _ _ _ _ _ _=>a
 |_=>{posonlyargs:=[],args:=[],vararg:=none,kwonlyargs:=[],kw_defaults:=[],kwarg:=none,defaults:=[]}
def cI(s:Stmt):List Stmt:=match s with
 | .FunctionDef _ _ b _ _ _ _ _ _ _=>b
 |_=>[]
def am(s:Stmt):Scope:=match s with
 | .FunctionDef _ _ _ _ _ _ sc _ _ _=>sc
 |_=>{kind:=.function,names:=[],isGenerator:=false,isCoroutine:=false}
abbrev bd:iI:=λ_ _ _ _ _ _=>False
abbrev E0:XK:=λ_ _ _=>False
theorem aM:dl bd X E0:=λ_ _ _ _ _ _ _ h=>h.elim
structure c8(K:Nv)(x qual:Str)(st:Stmt)(f:Addr)(fd:NE):Prop where
 ex:∃(oc:Value) (od:NK) (kV doc pm:Value) (an:NK) (cdv ct:Value) (osl:Array (Option Value)),
  fd=PySem.W.fnOf x qual (cZ st) (cI st) (am st) .none kV doc pm an cdv ct/\K.lookup f=some ⟨oc,od,.func fd,osl⟩/\PySem.W.codeIn K cdv qual=true
 kp:PySem.W.keepIn K (.ref f)=true
section
variable {P:NF}{w:NJ}{K:Nv}{mg:ND}{base:Heap}
theorem c8.ok{qual:Str}{st:Stmt}{f:Addr}{ps:NG}{sp:Sp}(F:c8 K x qual st f fd)(S:az N ps (am st))(len:∀vs H Q E,sp vs H Q E->vs.length=ps.length)
  (hbody:∀(cdv:Value) (A:NH) (outer:List Env) (s:Nz) (H:Hp) (vs:List V) (Q:VK) (E:XK),cO k (A.deeper (envOfC qual (am st) s.heap.objs.size f cdv))->sp vs H Q E ->
   ∃t,vb (iD bd P w K mg base N qual (am st) f cdv A outer s H E).nox (cI st) t/\t {nx:=λ_ H'=>Q .non H',rt:=Q} (start N vs) H):↑aV (k+1) f fd ps sp:=by
 obtain⟨oc,od,kV,doc,pm,an,cdv,ct,osl,rfl,c,b⟩:=F.ex;refine DM c b S len λA outer s H vs Q E hr a=>?_;obtain⟨t,h,q⟩:=hbody cdv A outer s H vs Q E hr a;exact⟨t,h.nox,q⟩
theorem c8.binds{qual:Str}{st:Stmt}{f:Addr}{ps:NG}(F:c8 K x qual st f fd)
  (h:∀(kV doc pm:Value) (an:NK) (cdv ct:Value) (us:NA),us.length=ps.length->bindArgs (PySem.W.fnOf x qual (cZ st) (cI st) (am st) .none kV doc pm an cdv ct) ⟨us,[]⟩=pure (ps.zip us)):dP K fd ps []:=by
 obtain⟨oc,od,kV,doc,pm,an,cdv,ct,osl,rfl,lk,hcd⟩:=F.ex;exact .all (h kV doc pm an cdv ct)
theorem cQ{qual:Str}{st:Stmt}{f:Addr}{oc:Value}{od an:NK}{osl:Array (Option Value)}{kV doc pm cdv ct:Value}(l:K.lookup f=some ⟨oc,od,.func (PySem.W.fnOf x qual (cZ st) (cI st) (am st) .none kV doc pm an cdv ct),osl⟩)
  (c:PySem.W.codeIn K cdv qual=true) (k:PySem.W.keepIn K (.ref f)=true):c8 K x qual st f (PySem.W.fnOf x qual (cZ st) (cI st) (am st) .none kV doc pm an cdv ct):=⟨⟨oc,od,kV,doc,pm,an,cdv,ct,osl,rfl,l,c⟩,k⟩
end
section
variable {X:Cx}
theorem pv(i:Nat){x:Str}{pos:Pos}(hN:autoParam (X.N[i]?=some x) zz0._auto_1)(hv:autoParam (IG X.env.scope x) zz6._auto_1)(hd:autoParam ((x==("__debug__":Str))=false) zz1._auto_1)
  (hcd:autoParam ((x==("__classdict__":Str))=false) zz1._auto_1):PE X (.Name x pos) (AQ i):=G6 hN hv hd hcd
theorem Ae:dH X (.builtin "len") (λxs H Q=>∃a kvs,xs=[V.ref a]/\H a=some (.dK kvs)/\Q (.int kvs.length) H):=by
 intro pins s σ H xs us Q I r h;obtain⟨a,kvs,rfl,c,q⟩:=h;obtain⟨u,rfl,b⟩:=ow r;cases b;exact Ik I (.inl c) λt s' d=>⟨.int kvs.length,H,d,⟨t,rfl⟩,q⟩
end
def ax(H H':Hp):Prop:=∀b o,H b=some o->H' b=some o
theorem ax.refl(H:Hp):ax H H:=λ_ _ h=>h
theorem ax.trans{H1 H2:Hp}(a:ax H H1)(b:ax H1 H2):ax H H2:=λc o h=>b c o (a c o h)
theorem ax.free(e:ax H H'){l:Addr}(h:H' l=Option.none):H l=Option.none:=by
 cases q:H l with
 |none=>rfl
 |some o=>
  rw[e l o q]at h;cases h
theorem ax.seq{K:Nv}(e:ax H H')(h:aI K H a xs):aI K H' a xs:=by
 rcases h with(h | ⟨o,h⟩) | h
 ·exact .inl (.inl (e _ _ h))
 ·exact .inl (.inr ⟨o,e _ _ h⟩)
 ·exact .inr h
section
variable {κ:Type}[DecidableEq κ]
theorem BH{kvs:List (κ×V)}{k:κ}(h:dQ kvs k=none):¬ k∈kvs.map (·.1):=by
 intro m;obtain⟨p,b,e⟩:=Nj.mp m;have q:(kvs.any λa=>decide (a.1=k))=true:=List.any_eq_true.mpr ⟨p,b,q09 e⟩;rw[gC,h]at q;exact q0Q q (by simp)
end
end L2
namespace PySem
open Sem (wp)
open Builtin Builtin.Str Builtin.Int
namespace F
theorem l9:Manifest.owners.lookup "reversed"=some Manifest.sig_reversed:=by kernel_rfl
theorem slot_rvs_next:Slot "reversed" "__next__" "reversed.__next__":=
 .of (owner:="reversed") (n:="__next__") (by rw[typeLookup_type,builtinLookup_eq_fast];kernel_rfl) (by decide +kernel) (by decide +kernel) (by decide +kernel)
  (by first | exact .inl (by decide +kernel) | exact .inr (by decide +kernel)) (by rw[isSubtype_type];kernel_rfl)
theorem entry_rvs_next:entryFor table "reversed.__next__"=some Builtin.«reversed.__next__»:=entryFor_of_tree (by kernel_rfl)
theorem slot_rvs_iter:Slot "reversed" "__iter__" "reversed.__iter__":=
 .of (owner:="reversed") (n:="__iter__") (by rw[typeLookup_type,builtinLookup_eq_fast];kernel_rfl) (by decide +kernel) (by decide +kernel) (by decide +kernel)
  (by first | exact .inl (by decide +kernel) | exact .inr (by decide +kernel)) (by rw[isSubtype_type];kernel_rfl)
theorem nolen_rvs:typeLookup (.type "reversed") "__len__"=pure none:=by rw[typeLookup_type,builtinLookup_eq_fast];kernel_rfl
theorem hint_rvs:typeLookup (.type "reversed") "__length_hint__"=pure (some (.builtin "reversed.__length_hint__")):=by rw[typeLookup_type,builtinLookup_eq_fast];kernel_rfl
theorem args_rvs_next_1(a:Value):argsOk "reversed.__next__" ⟨[a],[]⟩:=by
 unfold argsOk;rw[signature?_of (id:="reversed.__next__") (n:=['_','_','t','x','e','n','_','_']) (o:=['d','e','s','r','e','v','e','r']) (by kernel_rfl) l9];kernel_rfl
theorem args_rvs_iter_1(a:Value):argsOk "reversed.__iter__" ⟨[a],[]⟩:=by
 unfold argsOk;rw[signature?_of (id:="reversed.__iter__") (n:=['_','_','r','e','t','i','_','_']) (o:=['d','e','s','r','e','v','e','r']) (by kernel_rfl) l9];kernel_rfl
theorem entry_rvs_iter:entryFor table "reversed.__iter__"=some Builtin.«dict_keyiterator.__iter__»:=
 entryFor_alias (id':="dict_keyiterator.__iter__") (by kernel_rfl) (by first | rfl | decide +kernel | (unfold String.splitOn;simp +decide [String.splitOnAux])) (by decide +kernel) (by kernel_rfl)
theorem slot_rvs_hint:Slot "reversed" "__length_hint__" "reversed.__length_hint__":=
 .of (owner:="reversed") (n:="__length_hint__") (by rw[typeLookup_type,builtinLookup_eq_fast];kernel_rfl) (by decide +kernel) (by decide +kernel) (by decide +kernel)
  (by first | exact .inl (by decide +kernel) | exact .inr (by decide +kernel)) (by rw[isSubtype_type];kernel_rfl)
theorem entry_rvs_hint:entryFor table "reversed.__length_hint__"=some Builtin.«reversed.__length_hint__»:=entryFor_of_tree (by kernel_rfl)
theorem args_rvs_hint_1(a:Value):argsOk "reversed.__length_hint__" ⟨[a],[]⟩:=by
 unfold argsOk;rw[signature?_of (id:="reversed.__length_hint__") (n:=['_','_','t','n','i','h','_','h','t','g','n','e','l','_','_']) (o:=['d','e','s','r','e','v','e','r']) (by kernel_rfl) l9];kernel_rfl
end F
section
variable {prog:NF}{w:NJ}{A:NH}{E:Nu}{s:Nz}
def w9(x:Str)(t:Tok)(i:Int):Obj:={cls:=.type "reversed",data:=.fields #[.str x t,rawInt i]}
def Heap.IsRvs(h:Heap)(a:Addr)(x:Str)(t:Tok)(i:Int):Prop:=∃o,h.get? a=some o/\o.cls=.type "reversed"/\o.data=.fields #[.str x t,rawInt i]
theorem Heap.IsRvs.typeIs{t:Tok}(y:s.heap.IsRvs a x t i):s.TypeIs (.ref a) "reversed":=let ⟨o,ho,hc,_⟩:=y;⟨o,ho,hc⟩
theorem Heap.IsRvs.at{h h':Heap}{t:Tok}(y:h.IsRvs a x t i)(e:∀o,h.get? a=some o->h'.get? a=some o):h'.IsRvs a x t i:=let ⟨o,ho,r⟩:=y;⟨o,e _ ho,r⟩
theorem iE{it:Addr}{t:Tok}{i c:Nat}{Q:Option Value->Shared->Prop}(hit:s.heap.IsRvs it x t (i:Int))(hx:x.cps[i]?=some c)(hsz:i<2 ^ 63)
  (hQ:∀h' tk tk',h'.IsRvs it x t ((i:Int)-1)->Heap.SameBut it s.heap h'->Q (some (.str ⟨#[c]⟩ tk)) {s with heap:=h',toks:=tk' }):wpAny (model prog w) A (pyNext (.ref it)) Q E s:=by
 obtain⟨o,d,k,b⟩:=id hit;have g:i<x.length:=(Array.getElem?_eq_some_iff.mp hx).1;unfold pyNext;refine q04 (wpAny_attempt (wpAny_callSpecial?_slot (name:=Str.ofString "__next__") hit.typeIs F.slot_rvs_next
  (wpAny_call_entry F.slot_rvs_next hit.typeIs F.entry_rvs_next ?_ (F.args_rvs_next_1 _))))
 unfold Builtin.«reversed.__next__»;refine q04 (wpAny_of_eq (a:=(Value.ref it,[])) rfl ?_)
 try dsimp only
 refine q04 (wpAny_field d b (x:=.str x t) rfl ?_);refine q04 (wpAny_field d b (x:=rawInt (i:Int)) rfl ?_);show wpAny _ _ (if(i:Int)<0 then _ else _) _ _ s;rw[q06 ⋯];refine q04 (wpAny_specialOf (typeIs_str s x t) F.slot_str_getitem.lookup ?_)
 try dsimp only
 first
 |rw[q06 (show ¬ ((some (Value.builtin "str.__getitem__")).isNone=true) from M3)]
 |skip
 refine q04 (wpAny_mkInt ?_);refine q04 (wpAny_attempt ?_);have l:(seqIndex? (i:Int) x.length).bind (x.cps[·]?)=some c:=by
  have e:seqIndex? (i:Int) x.length=some i:=by
   have j:¬ ((i:Int)<0):=by omega
   unfold seqIndex?;simp[j,g]
  rw[e];exact hx
 refine P.getItem_str (c:=c) (by simp;omega) l ?_;dsimp only;refine q04 (wpAny_field d b (x:=rawInt (i:Int)) rfl ?_);show wpAny _ _ (setField (Value.ref it) 1 (rawInt ((i:Int)-1)) >>= λ_=>ret (Value.str ⟨#[c]⟩ _)) _ _ _;refine q04 (wpAny_setField d b (by simp) ?_);refine q05 ⟨_,rfl,q05 (hQ _ _ _ ?_ (Heap.SameBut.update ..))⟩;exact⟨_,ML _ d (Obj.isFreed_of_fields (Obj.data_mapFields b _)),(Obj.cls_mapFields ..).trans k,by
  rw[Obj.data_mapFields b];simp⟩
theorem iX{it:Addr}{t:Tok}{Q:Option Value->Shared->Prop}(hh:A.handled=none)(hit:s.heap.IsRvs it x t (-1))
  (hQ:∀h',Heap.ExtBut it s.heap h'->Q none {s with heap:=h' }):wpAny (model prog w) A (pyNext (.ref it)) Q E s:=by
 obtain⟨o,d,hc,c⟩:=id hit;unfold pyNext;refine q04 (wpAny_attempt (wpAny_callSpecial?_slot (name:=Str.ofString "__next__") hit.typeIs F.slot_rvs_next
  (wpAny_call_entry F.slot_rvs_next hit.typeIs F.entry_rvs_next ?_ (F.args_rvs_next_1 _))))
 unfold Builtin.«reversed.__next__»;refine q04 (wpAny_of_eq (a:=(Value.ref it,[])) rfl ?_)
 try dsimp only
 refine q04 (wpAny_field d c (x:=.str x t) rfl ?_);refine q04 (wpAny_field d c (x:=rawInt (-1)) rfl ?_);show wpAny _ _ (if(-1:Int)<0 then _ else _) _ _ s;rw[q07 nofun];refine q04 (wpAny_rule ?_);show wpAny _ _ ((setField (Value.ref it) 1 (rawInt (-1)) >>= λ_=>setField (Value.ref it) 0 .none) >>= _) _ _ _;refine q04 (q04 (wpAny_setField d c (by simp) ?_));have e:=ML (Obj.mapFields (·.setIfInBounds 1 (rawInt (-1)))) d (Obj.isFreed_of_fields (Obj.data_mapFields c _));refine wpAny_setField e (Obj.data_mapFields c _) (by simp) ?_;dsimp only;show wpAny _ _ (SmallTypes.stopIteration >>= _) _ _ _;refine q04 ?_;unfold SmallTypes.stopIteration
 first
 |show wpAny _ _ (newExc (.type "StopIteration") [] >>= _) _ _ _
 | (refine q04 ?_;show wpAny _ _ (newExc (.type "StopIteration") [] >>= _) _ _ _)
 refine q04 ?_;simp only[newExc,newTuple];refine q04 (wpAny_newObj_type ?_ (by size_fits));refine q04 (m:=firstArgMember _ _) (wpAny_of_eq (a:=Value.none) (by first | rfl | (simp only[firstArgMember];rfl)) ?_);refine wpAny_newObj_type ?_ (by size_fits);simp only[raiseNew];refine q04 (wpAny_handled ?_)
 first | rw[show A.in1.handled=none from hh] | rw[hh]
 refine q04 (q05 (wpAny_throw ?_));refine q04 (wpAny_isInstance (T:="StopIteration") (b:=true) ⟨_,ME _ rfl,rfl⟩ isSubtype_stop ?_);refine q05 (hQ _ ?_);intro b ob g i;exact Mx _ (Mx _ ((MD _ _ (Ne.symm g)).trans ((MD _ _ (Ne.symm g)).trans i)))
theorem gD{it:Addr}{t:Tok}{Q:Nu}(hit:s.heap.IsRvs it x t i)(h:Q (.ref it) s):wpAny (model prog w) A (pyIter (.ref it)) Q E s:=by
 refine wpAny_pyIter_slot hit.typeIs F.slot_rvs_iter (wpAny_call_entry F.slot_rvs_iter hit.typeIs F.entry_rvs_iter ?_ (F.args_rvs_iter_1 _));show wpAny _ _ (ret (.ref it)) _ _ s;exact q05 ⟨_,rfl,"reversed",_,hit.typeIs,F.slot_rvs_next.lookup,h⟩
theorem hint_rvs{it:Addr}{t:Tok}{Q:Nu}(hit:s.heap.IsRvs it x t i)(hi:i<x.length)(hz:x.length<=sizeLine)
  (h:∀u tk,s.toks<=tk->Q (.int (i+1) u) {s with toks:=tk}):wpAny (model prog w) A (call (.builtin "reversed.__length_hint__") [.ref it]) Q E s:=by
 obtain⟨o,b,hc,c⟩:=id hit;refine wpAny_call_entry F.slot_rvs_hint hit.typeIs F.entry_rvs_hint ?_ (F.args_rvs_hint_1 _);unfold Builtin.«reversed.__length_hint__»;refine q04 (wpAny_of_eq (a:=Value.ref it) rfl ?_);refine q04 (wpAny_field b c (x:=.str x t) rfl ?_);show wpAny _ _ (if(Value.str x t==Value.none)=true then _ else _) _ _ s;rw[q06 (show ¬ ((Value.str x t==Value.none)=true) from λz=>by cases(eq_of_beq z))];have hs:sizeLine=16777216:=q0V;refine q04 (P.len_str ⋯ ?_);refine q04 (m:=asInt? _) (q05 ?_);dsimp only;refine q04 (wpAny_field b c (x:=rawInt i) rfl ?_);show wpAny _ _ (if(x.length:Int)<i+1 then _ else _) _ _ _;rw[q06 ⋯];show wpAny _ _ (mkInt (i+1) >>= λv=>ret v) _ _ _;exact q04 (wpAny_mkInt (q05 ⟨_,rfl,h _ _ (by simp;omega)⟩))
theorem Walks.rvs{A:NH}(hh:A.handled=none)(I:Addr)(x:Str)(t:Tok)(hz:x.length<=sizeLine) :
  Walks prog w A I [I] [I] x.length (λi v=>∃c tk,x.cps[x.length-1-i]?=some c/\v=.str ⟨#[c]⟩ tk) (λi h=>i<=x.length/\h.IsRvs I x t ((x.length:Int)-1-(i:Int))) where
 sub:=λb hb=>hb
 frame:=λ_ _ _ y hk=>⟨y.1,y.2.at λo e=>hk I (by simp) o e⟩
 item:=λi s Q E hi y hQ=>by
  have e:(x.length:Int)-1-(i:Int)=((x.length-1-i:Nat):Int):=by omega
  have a:=y.2;rw[e]at a;have hb:x.length-1-i<x.cps.size:=by have:x.length=x.cps.size:=rfl;omega
  have n:x.cps[x.length-1-i]?=some (x.cps[x.length-1-i]'hb):=Array.getElem?_eq_getElem hb;have hs:sizeLine=16777216:=q0V;refine iE a n ⋯ λl tk g d j=>?_;have p:((x.length-1-i:Nat):Int)-1=(x.length:Int)-1-((i+1:Nat):Int):=by omega
  rw[p]at d;exact hQ _ l g ⟨_,tk,n,rfl⟩ ⟨hi,d⟩ λb o hb m=>j.extBut b o (λh=>hb (by simp[h])) m
 done:=λs Q E y hQ=>by
  have e:(x.length:Int)-1-(x.length:Int) = -1:=by omega
  have a:=y.2;rw[e]at a;exact iX hh a λl k=>hQ l s.toks λb o hb m=>k b o (λh=>hb (by simp[h])) m
 self:=λ_ _ _ _ y hQ=>gD y.2 hQ
theorem lA{t:Tok}{Q:List Value->Shared->Prop}(hh:A.handled=none)(hit:s.heap.IsRvs I x t ((x.length:Int)-1))(hz:x.length<=sizeLine)
  (hQ:∀s' acc,Moved [I] (λa b=>b=a) s s'->ItemsOf (λi v=>∃c tk,x.cps[x.length-1-i]?=some c/\v=.str ⟨#[c]⟩ tk) acc x.length->Q acc.toList s'):wpAny (model prog w) A (collect (.ref I)) Q E s:=by
 have W:=(Walks.rvs (prog:=prog) (w:=w) (A:=A.in1) hh I x t hz).toS;have hn:x.length<=sizeLine:=hz;have hst:(λi (s:Nz)=>i<=x.length/\s.heap.IsRvs I x t ((x.length:Int)-1-(i:Int))) 0 s:=⟨MZ _,by simpa using hit⟩;have hT:∀i (s:Nz),(i<=x.length/\s.heap.IsRvs I x t ((x.length:Int)-1-(i:Int)))->s.TypeIs (.ref I) "reversed":=λi s y=>y.2.typeIs;have hlt:I<s.heap.objs.size:=by obtain⟨o,ho,_⟩:=hit;exact M4 ho
 have hSI:s.heap.objs.size≠I:=λe=>M_ _ (e▸hlt);have hSf:s.heap.objs.size∉[I]:=λhm=>hSI (Mz.mp hm);unfold collect;refine q04 (wpAny_runValue (codeAny_builtin F.entry_proto_collect ?_));rw[Around.under_plainId F.plain_proto_collect _];show wpAny _ A.in1 (newList [] >>= λl=>again (.builtin "list.__iadd__" ⟨[l,.ref I],[]⟩)) _ _ s;refine q04 (wpAny_newObj_type ?_);refine q05 ⟨plainId_quiet F.plain_list_iadd _,codeAny_builtin F.entry_list_iadd ?_⟩;rw[Around.under_plainId F.plain_list_iadd _];have hst₁:=W.frame 0 s (s.heap.push {cls:=.type "list",data:=.seq ([]:List Value).toArray}) s.toks hst (MY _) λb _ o e=>Mx _ e;have hS₁:(s.heap.push {cls:=.type "list",data:=.seq ([]:List Value).toArray}).get? s.heap.objs.size=some {cls:=.type "list",data:=.seq ([]:List Value).toArray}:=ME _ rfl;have h1:Builtin.List.listSameRef (.ref s.heap.objs.size) (.ref I)=false:=by simp[Builtin.List.listSameRef,hSI]
 show wpAny _ A.in1 (Builtin.List.listExtendWith (.ref s.heap.objs.size) (.ref I) (.ref s.heap.objs.size)) _ _ _;unfold Builtin.List.listExtendWith;refine q04 (wpAny_typeOf (hT 0 _ hst₁) ?_);rw[q06 (by rw[h1];decide)];refine q04 (W.self 0 _ _ _ hst₁ ?_);refine q04 (q0X ?_);unfold Builtin.List.listLengthHint;refine q04 (wpAny_specialOf (hT 0 _ hst₁) F.nolen_rvs ?_);show wpAny _ A.in1 (specialOf (Value.ref I) (Str.ofString "__length_hint__") >>= _) _ _ _;refine q04 (wpAny_specialOf (hT 0 _ hst₁) F.hint_rvs ?_)
 (generalize hid:("reversed.__length_hint__":String)=id0;(fail_if_success (clear hid id0));wp_delta;rw[show splitId id0=some ("reversed","__length_hint__") from by subst hid;decide +kernel];subst hid)
 refine q04 (wpAny_isInstance (b:=true) (hT 0 _ hst₁) (by rw[isSubtype_type];kernel_rfl) ?_);rw[q06 (show ¬ ((!true)=true) by decide)];dsimp only
 split
 ·rename_i hsil
  exact q0Q hsil (by decide +kernel)
 refine q04 (wpAny_rule ?_);refine q04 (wpAny_of_eq (F.slot_rvs_hint.bind _) ?_);dsimp only;refine q04 (wpAny_attempt ?_);refine hint_rvs (i:=(x.length:Int)-1-((0:Nat):Int)) hst₁.2 ⋯ hz λu tk htk=>?_;dsimp only;have hs:sizeLine=16777216:=q0V;have hk:Builtin.List.listTooLong (Int.toNat ((x.length:Int)-1-((0:Nat):Int)+1))=false:=by
  unfold Builtin.List.listTooLong;have e:Int.toNat ((x.length:Int)-1-((0:Nat):Int)+1)=x.length:=by omega
  rw[e]
  simpa using hz
 refine q04 (m:=asInt? (.int _ u)) (q05 ?_);dsimp only;have hfit:Builtin.List.listFitsIndex ((x.length:Int)-1-((0:Nat):Int)+1)=true:=by
  unfold Builtin.List.listFitsIndex;simp;omega
 rw[q06 (by rw[hfit];decide),q06 ⋯,q06 (by rw[hk];decide)];refine q05 ?_
 -- the loop,from a list that may have been touched
 have dW:∀(h₂:Heap) (c:Nat),(∀b o,b≠s.heap.objs.size->(s.heap.push {cls:=.type "list",data:=.seq ([]:List Value).toArray}).get? b=some o->h₂.get? b=some o) ->
   h₂.get? s.heap.objs.size=some {cls:=.type "list",data:=.seq ([]:List Value).toArray c} ->
   codeAny (model prog w) A (.builtin "list.extend.loop" ⟨[.ref s.heap.objs.size,.ref I,.ref s.heap.objs.size],[]⟩) (λr s'=>match r with
    | .ok (.ret v)=>wpAny (model prog w) A (match v with
     | .ref a=>do
      let __do_lift <- load a
      match __do_lift.data with
       | .seq xs _=>pure xs.toList
       |_=>unsupported "internal:collect"
     |_=>unsupported "internal:collect") Q E s'
    | .ok _=>False
    | .error e=>E e s') {s with heap:=h₂,toks:=tk}:=λh₂ c keep hS₂=>by
  have hst₂:(λi (s:Nz)=>i<=x.length/\s.heap.IsRvs I x t ((x.length:Int)-1-(i:Int))) 0 {s with heap:=h₂,toks:=tk}:=⟨MZ _,hst₁.2.at λo e=>keep I o (Ne.symm hSI) e⟩;refine codeAny_extend_loopS W hn _ hSf _ x.length 0 _ _ _ rfl (MZ _) hst₂ hS₂ (ItemsOf.nil _) λs' acc' c' hm hS' hacc=>?_;show wpAny _ A (load s.heap.objs.size >>= _) _ _ s';refine q04 (wpAny_load hS' ?_);refine q05 (hQ s' acc' ?_ hacc);exact⟨λb ob hb e=>hm.heap b ob (λhm'=>by
    rcases MQ.mp hm' with e1 | hm'
    ·exact q0Q (e1▸M4 e) (M_ _)
    ·exact hb hm') (keep b ob (λe1=>q0Q (e1▸M4 e) (M_ _)) (Mx _ e)),hm.gens,hm.drawn,hm.os,M9 htk hm.toks⟩
 have quiet:=plainId_quiet F.plain_extend_loop (⟨[.ref s.heap.objs.size,.ref I,.ref s.heap.objs.size],[]⟩:Args)
 split
 ·refine q04 (wpAny_rule ?_)
  show wpAny _ A.in1 ((updateSeq s.heap.objs.size (·.push .none) >>= λ_=>updateSeq s.heap.objs.size (·.pop)) >>= _) _ _ _;refine q04 (q04 (wpAny_updateSeq hS₁ rfl ?_ (by simp) (by simp)));have q1:=PySem.IsL.update (h:=s.heap.push {cls:=.type "list",data:=.seq ([]:List Value).toArray}) (l:=s.heap.objs.size) (items:=([]:List Value).toArray) (n:=0) hS₁ (·.push .none);refine wpAny_updateSeq q1 rfl ?_ (by simp;omega) (by simp);have q2:=PySem.IsL.update q1 (·.pop);exact q05 ⟨quiet,dW _ _ (λb o hb e=>(MD _ _ (Ne.symm hb)).trans ((MD _ _ (Ne.symm hb)).trans e)) (show _=some ({cls:=.type "list",data:=.seq ([]:List Value).toArray _}:Obj) from q2)⟩
 ·exact q05 ⟨quiet,dW _ _ (λb o hb e=>e) hS₁⟩
theorem Dq{sep:Str}{t:Tok}{Q:Nu}(hh:A.handled=none)(hit:s.heap.IsRvs I x t ((x.length:Int)-1))(hz:x.length<=1000)(hsep:sep.length<=1000)
  (h:∀(s':Nz) (t':Tok) (k:Nat),(∀b o,b≠I->s.heap.get? b=some o->s'.heap.get? b=some o)->s'.gens=s.gens->s'.drawn=s.drawn->s'.os=s.os ->
   Q (.str (Txt.join sep (x.cps.toList.reverse.map λc=>(⟨#[c]⟩:Str))) t') {s' with toks:=k}):wpAny (model prog w) A (call (.builtin "str.join") [.str sep t0,.ref I]) Q E s:=by
 have hs:sizeLine=16777216:=q0V;refine wpAny_call (codeAny_call_builtin F.slot_str_join.plain F.entry_str_join (F.slot_str_join.check _ _ _ _ _ _ _ _ (typeIs_str _ _ _) (F.args_str_join_2 _ _) ?_));rw[join_tree_other];refine q04 (wpAny_typeOf hit.typeIs ?_);show wpAny _ A.in1 ((pyIter (.ref I)).tryCatch _ >>= λT=>collect T >>= λm=>joinTail sep m) _ _ s;refine q04 (wpAny_tryCatch (gD hit ?_));refine q04 (lA hh hit ⋯ λs' u B d=>?_);obtain⟨l,C⟩:=exists_strValues u.toList λv U=>by
  obtain⟨j,D,rfl⟩:=Array.mem_iff_getElem.mp (Array.mem_toList_iff.mp U);obtain⟨c,S,_,e⟩:=d.2 j _ (Array.getElem?_eq_getElem D);exact⟨_,_,e⟩
 have n:l.map (·.1)=x.cps.toList.reverse.map λc=>(⟨#[c]⟩:Str):=by
  have Z:l.length=x.length:=by
   have q:=q0R List.length C;simp[strValues]at q;rw[q];exact d.1
  refine List.ext_getElem (by simp[Z];rfl) λj h1 h2=>?_;simp only[M6,List.getElem_reverse];have D:j<l.length:=by simpa using h1
  have Y:u.toList[j]?=some (Value.str (l[j]).1 (l[j]).2):=by
   rw[<- C];simp[strValues,D]
  have L:u[j]?=some (Value.str (l[j]).1 (l[j]).2):=by simpa using Y
  obtain⟨c,S,R,e⟩:=d.2 j _ L
  injection e with O _
  rw[O];have J:x.length-1-j<x.cps.size:=by have:x.length=x.cps.size:=rfl;omega
  rw[Array.getElem?_eq_getElem J]at R;have G:=q0S R;rw[<- G];simp only[Array.length_toList,Array.getElem_toList]
  rfl
 rw[<- C];have i:JoinOk sep (l.map (·.1))=true:=by
  unfold JoinOk;rw[StrLaws.joinTotal];have O:((l.map (·.1)).map (·.length)).sum=x.length:=by
   rw[n,MP];have:((λy:Str=>y.length)∘λc=>(⟨#[c]⟩:Str))=λ_=>1:=by funext c;rfl
   rw[this,List.map_const',List.sum_replicate_nat];simp
   rfl
  have e2:(l.map (·.1)).length=x.length:=by rw[n];simp;rfl
  rw[O,e2];have:x.length*sep.length<=1000*1000:=Nat.mul_le_mul hz hsep;unfold tooLong;rw[q08 ⋯]
  rfl
 have a:=λt' k=>h s' t' k (λb o J e=>B.heap b o (λz=>J (Mz.mp z)) e) B.gens B.drawn B.os;unfold JoinOk at i;rw[Bool.not_eq_true']at i;have g:Gives (joinTail sep (strValues l)) (joinMade sep l):=by
  have M:=gives_joinTail sep l i;cases l with
  |nil=>exact M
  |cons p r=>cases r with
   |nil=>exact M
   |cons q r'=>exact M
 rw[<- n]at a;exact g prog w A (wants Q E) s' (post_join l ⟨joinFit_length i,a⟩)
end
namespace F
theorem qD:Slot "reversed" "__init__" "object.__init__":=
 .of (owner:="object") (n:="__init__") (by rw[typeLookup_type,builtinLookup_eq_fast];kernel_rfl) (by decide +kernel) (by decide +kernel) (by decide +kernel)
  (by first | exact .inl (by decide +kernel) | exact .inr (by decide +kernel)) (by rw[isSubtype_type];kernel_rfl)
theorem zJ:mroOf (.type "reversed")=pure [.type "reversed",.type "object"]:=by rw[mroOf_type];kernel_rfl
theorem pI:typeLookup (.type "reversed") "__new__"=pure (some (.builtin "reversed.__new__")):=by rw[typeLookup_type,builtinLookup_eq_fast];kernel_rfl
theorem rvs_called:TypeCalled "reversed" "reversed.__new__" "object.__init__":=
 ⟨by decide +kernel,by decide +kernel,⟨_,_,zJ⟩,madeBy_type zJ pI (by decide +kernel),by decide +kernel,by rw[isSubtype_type];kernel_rfl,qD⟩
theorem rvs_typeCall_1(a:Value):checkTypeCall "reversed" ⟨[a],[]⟩=pure ():=by kernel_rfl
theorem rvs_newCall_1(a:Value):checkBuiltinCall "reversed.__new__" ⟨[.type "reversed",a],[]⟩=pure ():=by kernel_rfl
theorem rvs_entry_new:entryFor table "reversed.__new__"=some Builtin.«reversed.__new__»:=entryFor_of_tree (by kernel_rfl)
theorem rvs_sub:isSubtype (.type "reversed") (.type "reversed")=pure true:=by rw[isSubtype_type];kernel_rfl
theorem rvs_nostr:typeLookup (.type "str") "__reversed__"=pure none:=by rw[typeLookup_type,builtinLookup_eq_fast];kernel_rfl
end F
section
variable {prog:NF}{w:NJ}{A:NH}{E:Nu}{s:Nz}
theorem tU(a:Value):Builtin.SmallTypes.newClass "reversed" ⟨[.type "reversed",a],[]⟩=pure (.type "reversed",[a]):=by
 unfold Builtin.SmallTypes.newClass;simp only[isType,F.rvs_sub,pure_bind,Bool.not_true,q0Z,if_false]
theorem qH(x:Str)(t:Tok)(hz:x.length<=sizeLine):Meets (Builtin.«reversed.__new__» ⟨[.type "reversed",.str x t],[]⟩)
  (λ_ R s=>R (.ok (.ret (.ref s.heap.objs.size))) {s with heap:=s.heap.push (w9 x t ((x.length:Int)-1)),toks:=s.toks+1+1}):=
 .of_wp λprog w A R s h=>by
  have hs:sizeLine=16777216:=q0V;unfold Builtin.«reversed.__new__»;refine q04 (wpAny_of_eq (tU _) ?_)
  try dsimp only
  refine q04 (wpAny_of_eq (a:=()) (by first | rfl | kernel_rfl) ?_);refine q04 (wpAny_of_eq (a:=()) (by first | rfl | kernel_rfl) ?_)
  try dsimp only
  refine q04 (wpAny_specialOf (typeIs_str s x t) F.rvs_nostr ?_)
  try dsimp only
  refine q04 ?_;refine q04 (wpAny_isInstance (T:="str") (b:=false) (typeIs_str s x t) (by rw[isSubtype_type];kernel_rfl) ?_);rw[q06 nofun];refine q04 (wpAny_specialOf (typeIs_str s x t) F.slot_str_getitem.lookup ?_);dsimp only
  split
  ·refine q05 ?_
   rw[q06 nofun];refine q04 (P.len_str ⋯ ?_);refine q04 (m:=asInt? _) (q05 ?_);dsimp only;show wpAny _ _ (newObj (.type "reversed") (.fields #[.str x t,rawInt ((x.length:Int)-1)]) >>= λv=>ret v) _ _ _;exact q04 (wpAny_newObj_type (q05 ⟨_,rfl,h⟩))
  ·rename_i hn
   exact q0Q (by decide +kernel) hn
theorem kU{x:Str}{t:Tok}{Q:Nu}(hz:x.length<=sizeLine)
  (h:Q (.ref s.heap.objs.size) {s with heap:=s.heap.push (w9 x t ((x.length:Int)-1)),toks:=s.toks+1+1}):wpAny (model prog w) A (call (.type "reversed") [.str x t]) Q E s:=
 callType_new F.rvs_called nofun (F.rvs_typeCall_1 _) (F.rvs_newCall_1 _) (λobj=>F.args_object_init_2 obj _) F.rvs_entry_new (qH x t hz) ⟨⟨_,ME _ rfl,rfl⟩,h⟩
end
end PySem
namespace L2
open PySem PySem.Spec PyProof.Rows
def eV(env:Env):List (Str×NameKind)->List (Str×Addr)->List (Str×Addr)
 | [],acc=>acc
 | (n,k)::r,acc=>if k==.free then eV env r ((n,(env.cells.lookup n).getD 0)::acc) else eV env r acc
theorem nh{env:Env}:∀(ns:List (Str×NameKind)) (acc:List (Str×Addr)),(∀x∈ns,x.2=.free->∃c,env.cells.lookup x.1=some c) ->
  (forIn ns acc fun(x:Str×NameKind) (cs:List (Str×Addr))=>(if x.2==.free then do
    let c <- cellOf env x.1
    pure (ForInStep.yield ((x.1,c)::cs))
   else pure (ForInStep.yield cs):Sem (ForInStep (List (Str×Addr)))))=pure (eV env ns acc)
 | [],acc,_=>rfl
 | (n,k)::r,acc,h=>by
  have ih:=λa=>nh (env:=env) r a λx hx=>h x (MR _ hx);rw[List.forIn_cons]
  by_cases hk:k=.free
  ·subst hk
   obtain⟨c,hc⟩:=h (n,.free) q0B rfl;have hc':env.cells.lookup n=some c:=hc;have e1:cellOf env n=pure c:=by unfold cellOf;rw[hc']
   simp only[eV,hc',q0L];show((do let c <- cellOf env n;pure (ForInStep.yield ((n,c)::acc))) >>= _)=_;rw[e1,pure_bind,pure_bind];exact ih _
  ·have b:(k==NameKind.free)=false:=by simpa using hk
   simp only[eV,b,q0Z,if_false];rw[pure_bind];exact ih _
theorem iO{env:Env}{scope:Scope}(h:∀x∈scope.names,x.2=.free->∃c,env.cells.lookup x.1=some c) :
  closureFor scope env=pure (eV env scope.names []):=by
 unfold closureFor;have e:=nh (env:=env) scope.names [] h;have a:(forIn scope.names ([]:List (Str×Addr)) λx b=>(match x with
   | (name,kind)=>if kind==.free then do
     let c <- cellOf env name
     pure (ForInStep.yield ((name,c)::b))
    else pure (ForInStep.yield b):Sem (ForInStep (List (Str×Addr)))))=pure (eV env scope.names []):=e
 simp only[]at a ⊢
 first
  | (rw[a];rfl)
  | (erw [a];rfl)
theorem gQ{env:Env}:∀{ns:List (Str×NameKind)} {acc:List (Str×Addr)} {x:Str} {c:Addr},(∀y∈ns,y.2=.free->∃c,env.cells.lookup y.1=some c) ->
  (∀y c,acc.lookup y=some c->env.cells.lookup y=some c)->(eV env ns acc).lookup x=some c->env.cells.lookup x=some c
 | [],_,_,_,_,ha,e=>ha _ _ e
 | (n,k)::r,acc,x,c,h,ha,e=>by
  have hr:∀y∈r,y.2=.free->∃c,env.cells.lookup y.1=some c:=λy hy=>h y (MR _ hy);unfold eV at e
  by_cases hk:k=.free
  ·subst hk
   rw[q07 (by simp)]at e;obtain⟨c',hc⟩:=h (n,.free) q0B rfl;have hc':env.cells.lookup n=some c':=hc;refine gQ hr (λy d z=>?_) e;rw[hc',q0L,List.lookup_cons]at z
   by_cases q:y=n
   ·subst q
    simp at z;subst z;exact hc'
   ·have q':(y==n)=false:=by simpa using q
    rw[q']at z;exact ha y d z
  ·rw[q06 (by simpa using hk)]at e
   exact gQ hr ha e
theorem oj{env:Env}:∀{ns:List (Str×NameKind)} {acc:List (Str×Addr)} {x:Str},((∃c,acc.lookup x=some c)\/(x,NameKind.free)∈ns)->∃c,(eV env ns acc).lookup x=some c
 | [],_,_,h=>by
  rcases h with h | h
  ·exact h
  ·exact nomatch h
 | (n,k)::r,acc,x,h=>by
  unfold eV
  by_cases hk:k=.free
  ·subst hk
   rw[q07 (by simp)];refine oj ?_
   by_cases q:x=n
   ·subst q
    left
    simp[List.lookup_cons]
   ·have q':(x==n)=false:=by simpa using q
    rcases h with⟨c,h⟩ | h
    ·exact .inl ⟨c,by rw[List.lookup_cons,q'];exact h⟩
    ·rcases MQ.mp h with z | z
     ·cases z
      exact q0Q rfl q
     ·exact .inr z
  ·rw[q06 (by simpa using hk)]
   refine oj ?_;rcases h with h | h
   ·exact .inl h
   ·rcases MQ.mp h with z | z
    ·cases z
     exact q0Q rfl hk
    ·exact .inr z
def vt(scope osc:Scope):Scope:=
 {scope with names:=scope.names.map fun(n,k)=>if(k==.free&&osc.kind==.function&&osc.names.lookup n==some .cell) then(n,.cell) else(n,k)}
def Cc(scope osc:Scope):Bool:=
 (scope.kind==.function)&&(osc.kind==.function)&&scope.names.all fun(n,k)=>(k != .free || !scope.names.contains (n,NameKind.cell))&&(k != .local||scope.names.lookup n==some .local) &&
  (k != .free||osc.names.lookup n==some .cell||osc.names.lookup n==some .free)&&(k != .free||(vt scope osc).names.lookup n != some .local)
structure bv(scope osc:Scope):Prop where
 kind:scope.kind=.function
 sep:∀x∈scope.names,x.2=.free->(x.1,NameKind.cell)∉scope.names
 loc:∀x∈scope.names,x.2=.local->scope.names.lookup x.1=some .local
 free:∀x∈scope.names,x.2=.free->osc.names.lookup x.1=some .cell\/osc.names.lookup x.1=some .free
 nl:∀x∈scope.names,x.2=.free->(vt scope osc).names.lookup x.1≠some .local
theorem bv.of{scope osc:Scope}(h:Cc scope osc=true):bv scope osc:=by
 unfold Cc at h;rw[q0O,q0O,Nk]at h;obtain⟨⟨h1,h0⟩,h2⟩:=h;refine⟨by simpa using h1,λx a e=>?_,λx a e=>?_,λx a e=>?_,λx a e=>?_⟩
 all_goals
  obtain⟨n,k⟩:=x;have q:=h2 (n,k) a;simp only[q0O,Bool.or_eq_true,bne_iff_ne,beq_iff_eq]at q
 ·have z:=q.1.1.1.resolve_left (λz=>z e)
  simpa using z
 ·exact q.1.1.2.resolve_left (λz=>z e)
 ·rcases q.1.2 with(z | z) | z
  ·exact q0Q e z
  ·exact .inl z
  ·exact .inr z
 ·exact q.2.resolve_left (λz=>z e)
theorem fK{osc:Scope}:∀{ns:List (Str×NameKind)} {x:Str} {k':NameKind},
  (ns.map fun(n,k)=>if(k==NameKind.free&&osc.kind==.function&&osc.names.lookup n==some .cell) then(n,NameKind.cell) else(n,k)).lookup x=some k' ->
  (k'=.cell\/k'=.free)->(x,NameKind.free)∈ns\/(x,NameKind.cell)∈ns
 | [],_,_,h,_=>by simp at h
 | (n,k)::r,x,k',h,hk'=>by
  rw[M8]at h
  by_cases q:x=n
  ·subst q
   by_cases z:(k==NameKind.free&&osc.kind==.function&&osc.names.lookup x==some .cell)=true
   ·have:k=.free:=by
     simp only[q0O,beq_iff_eq]at z;exact z.1.1
    subst this;exact .inl q0B
   ·simp only[z,q0Z,if_false]at h
    rw[List.lookup_cons]at h;simp at h;subst h;rcases hk' with e | e
    ·subst e;exact .inr q0B
    ·subst e;exact .inl q0B
  ·have a:(x==n)=false:=by simpa using q
   refine(fK (osc:=osc) (k':=k') (ns:=r) (x:=x) ?_ hk').imp (MR _) (MR _)
   by_cases z:(k==NameKind.free&&osc.kind==.function&&osc.names.lookup n==some .cell)=true
   ·simp only[z,if_true]at h
    rw[List.lookup_cons,a]at h;exact h
   ·simp only[z,q0Z,if_false]at h
    rw[List.lookup_cons,a]at h;exact h
theorem iU:∀(ns:List (Str×NameKind)) (n:Nat) (acc:List (Str×Addr)),cellsFrom n ns acc=cellsFrom n ns []++acc
 | [],_,_=>rfl
 | (x,k)::r,n,acc=>by
  unfold cellsFrom
  split
  ·rw[iU r (n+1) ((x,n)::acc),iU r (n+1) [(x,n)],Nb];rfl
  ·exact iU r n acc
theorem t8:∀{ns:List (Str×NameKind)} {n:Nat} {x:Str} {c:Addr},(x,c)∈cellsFrom n ns []->(x,NameKind.cell)∈ns
 | [],_,_,_,h=>nomatch h
 | (y,k)::r,n,x,c,h=>by
  unfold cellsFrom at h
  split at h
  ·rename_i hk
   rw[iU]at h;rcases MO.mp h with h | h
   ·exact MR _ (t8 h)
   ·cases Mz.mp h
    have:k=.cell:=by simpa using hk
    subst this;exact q0B
  ·exact MR _ (t8 h)
theorem ur:∀{ns:List (Str×NameKind)} {n:Nat} {x:Str} {acc:List (Str×Addr)},((x,NameKind.cell)∈ns\/∃c,acc.lookup x=some c)->∃c,(cellsFrom n ns acc).lookup x=some c
 | [],_,_,_,h=>h.elim (λz=>nomatch z) id
 | (y,k)::r,n,x,acc,h=>by
  unfold cellsFrom
  split
  ·refine ur ?_
   by_cases q:x=y
   ·subst q
    exact .inr ⟨n,by simp[List.lookup_cons]⟩
   ·have q':(x==y)=false:=by simpa using q
    rcases h with h | ⟨c,h⟩
    ·rcases MQ.mp h with z | z
     ·cases z;exact q0Q rfl q
     ·exact .inl z
    ·exact .inr ⟨c,by rw[List.lookup_cons,q'];exact h⟩
  ·rename_i hk
   refine ur ?_;rcases h with h | h
   ·rcases MQ.mp h with z | z
    ·cases z;exact q0Q rfl hk
    ·exact .inl z
   ·exact .inr h
def dO(env:Env)(scope:Scope)(C:Addr):List (Str×Addr):=cellsFrom (C+1) scope.names (eV env scope.names [])
theorem lm:∀{ns:List (Str×NameKind)} {n:Nat} {x:Str} {c:Addr},(x,c)∈cellsFrom n ns []->n<=c
 | [],_,_,_,h=>nomatch h
 | (y,k)::r,n,x,c,h=>by
  unfold cellsFrom at h
  split at h
  ·rw[iU]at h
   rcases MO.mp h with h | h
   ·exact M9 (Nat.le_succ _) (lm h)
   ·cases Mz.mp h
    exact MY _
  ·exact lm h
theorem pp:∀{ns:List (Str×NameKind)} {n:Nat},(cellsFrom n ns []).Pairwise λx y=>x.2≠y.2
 | [],_=>List.Pairwise.nil
 | (y,k)::r,n=>by
  unfold cellsFrom
  split
  ·rw[iU]
   refine List.pairwise_append.mpr ⟨pp,by simp,λa ha b hb e=>?_⟩;cases Mz.mp hb;have:=lm (x:=a.1) (c:=a.2) ha;rw[e]at this;exact q0Q this (Nat.not_succ_le_self _)
  ·exact pp
theorem iu{env:Env}{scope:Scope}{c:Addr}(h:(dO env scope C).lookup x=some c) :
  ((x,c)∈cellsFrom (C+1) scope.names []/\C<c/\(x,NameKind.cell)∈scope.names)\/((cellsFrom (C+1) scope.names []).lookup x=none/\(eV env scope.names []).lookup x=some c):=by
 unfold dO at h;rw[iU,List.lookup_append]at h;cases q:(cellsFrom (C+1) scope.names []).lookup x with
 |none=>rw[q]at h;exact .inr ⟨rfl,h⟩
 |some d=>
  rw[q]at h;cases h;have:=mem_of_lookup q;exact .inl ⟨this,lm this,t8 this⟩
theorem BK{ns:List (Str×NameKind)}{x:Str}(h:(x,NameKind.cell)∉ns):(cellsFrom n ns []).lookup x=none:=by
 cases q:(cellsFrom n ns []).lookup x with
 |none=>rfl
 |some d=>exact q0Q (t8 (mem_of_lookup q)) h
section
variable {M:Model}{A:NH}{E:Nu}{s:Nz}
theorem fe{scope:Scope}{globals:Addr}{closure:List (Str×Addr)}{qual:Str}{func:NK}{code:Value}{outer:Env}{builtins:Addr}{Q:Env->Shared->Prop}
  (hQ:Q (newEnv scope s.heap.objs.size globals (cellsFrom (s.heap.objs.size+1) scope.names closure) qual func code (some outer) builtins) {s with heap:=pushCells (s.heap.push {cls:=.type "dict",data:=.dict #[]}) scope.names}) :
  wpAny M A (newFunctionEnv scope globals closure [] qual func code (some outer) builtins) Q E s:=by
 simp only[newFunctionEnv,Option.isSome_some,if_true];simp only[newEnv]at hQ;refine q04 (wpAny_alloc ?_);refine q04 (wpAny_layCells _ (λname a cells=>by cases b:a==NameKind.cell<;>simp[b]) _ _ _ _ ?_);rw[show({s with heap:=s.heap.push {cls:=.type "dict",data:=.dict #[]} }:Shared).heap.objs.size=s.heap.objs.size+1 from Heap.size_push ..];rw[List.forIn_nil];exact q04 (q05 (q05 hQ))
end
def Cx.blk(X:Cx)(N':NG)(s₂:Nz)(H₂:Hp)(scope:Scope)(fp:NC)(C:Addr):Cx where
 prog:=X.prog
 w:=X.w
 K:=X.K
 mg:=X.mg
 base:=X.base
 A:=X.A
 N:=N'
 s₀:=s₂
 H₀:=H₂
 env:=compEnvC scope (dO X.env scope C) C X.env
 outer:=X.stack
 stack:=X.stack
 ex:=fp
 fn:=λx=>scope.names.contains (x,NameKind.cell)
 calm:=X.calm
 pn:=[]
 xe:=λ_ _=>False
def sU(k:Nat)(js:Ny)(σ:St):St:=List.replicate k none++js.map λj=>(σ[j]?).join
def oV(own:NG)(js:Ny)(N:NG):List Str:=own++js.map λj=>N.getD j Str.empty
section
variable {X:Cx}
theorem Inv.capFree{pins:Nw}{σ:St}{scope:Scope}(I:Inv X pins σ H s)(hk:bv scope X.env.scope):∀x∈scope.names,x.2=.free->∃c,X.env.cells.lookup x.1=some c:=
 λx hx e=>I.ok.has x.1 (hk.free x hx e)
theorem Inv.capL{pins:Nw}{σ:St}{scope:Scope}{c:Addr}(I:Inv X pins σ H s)(hk:bv scope X.env.scope)(e:(eV X.env scope.names []).lookup x=some c):X.env.cells.lookup x=some c:=
 gQ (I.capFree hk) (λ_ _ z=>by simp at z) e
theorem Inv.blkL{pins:Nw}{σ:St}{scope:Scope}{c:Addr}(I:Inv X pins σ H s)(hk:bv scope X.env.scope)(e:(dO X.env scope C).lookup x=some c) :
  ((x,c)∈cellsFrom (C+1) scope.names []/\C<c/\(x,NameKind.cell)∈scope.names)\/X.env.cells.lookup x=some c:=
 (iu e).imp id λz=>I.capL hk z.2
theorem Hm{pins:Nw}{σ:St}{scope:Scope}{fp:NC}{C:Addr}(I:Inv X pins σ H s)(hk:bv scope X.env.scope)(hC:s.heap.objs.size<=C)
  (hf:∀b∈fp,nQ X pins H b) (ho:∀b∈fp,∃o,s.heap.get? b=some o):(X.blk N' s H scope fp C).Ok where
 mod:=I.ok.mod
 kind:=hk.kind
 glob:=I.ok.glob
 blt:=I.ok.blt
 above:=hC
 inj:=λx y c e1 e2=>by
  have low:∀z,X.env.cells.lookup z=some c->c<C:=λz e=>by
   obtain⟨v,q⟩:=I.cell z c e;exact MT q.lt hC
  rcases I.blkL hk e1 with⟨a1,a2,_⟩ | a<;>rcases I.blkL hk e2 with⟨b1,b2,_⟩ | b
  ·exact name_of_addr pp a1 b1
  ·exact q0Q (low _ b) (Nat.not_lt.mpr (q0P a2))
  ·exact q0Q (low _ a) (Nat.not_lt.mpr (q0P b2))
  ·exact I.ok.inj x y c a b
 has:=λx h=>by
  refine ur ?_;have z:(x,NameKind.free)∈scope.names\/(x,NameKind.cell)∈scope.names:=by
   rcases h with h | h
   ·exact fK (osc:=X.env.scope) h (.inl rfl)
   ·exact fK (osc:=X.env.scope) h (.inr rfl)
  rcases z with z | z
  ·exact .inr (oj (.inr z))
  ·exact .inl z
 cab:=λx c z e=>by
  have k:(x,NameKind.cell)∈scope.names:=by
   have j:scope.names.contains (x,NameKind.cell)=true:=z
   simpa using j
  have i:(dO X.env scope C).lookup x=some c:=e;rcases iu i with⟨_,a,_⟩ | ⟨a,_⟩
  ·exact M9 hC (q0P a)
  ·obtain⟨d,q⟩:=ur (n:=C+1) (acc:=[]) (.inl k)
   rw[a]at q;cases q
 hd:=I.ok.hd
 frames:=I.ok.frames
 stk:=.inl rfl
 exf:=λb g=>⟨λe=>by
  obtain⟨o,q⟩:=ho b g;have i:b=C:=e;rw[i]at q;exact q0Q (M4 q) (Nat.not_lt.mpr hC),λx c e=>by
  rcases I.blkL hk e with⟨_,a,_⟩ | a
  ·obtain⟨o,q⟩:=ho b g
   intro z;rw[z]at a;exact q0Q (MT (M4 q) hC) (Nat.not_lt.mpr (q0P a))
  ·exact(hf b g).2.2.2.2.1 x c a⟩
 bs:=I.bs
 bsz:=M9 I.ok.bsz I.sz
 noex:=λb o e g=>by
  rcases(hf b g).2.2.2.1 with z | z
  ·exact I.ok.noex b o e z
  ·exact q0Q (M4 (I.ok.bs b o e).1) (Nat.not_lt.mpr z)
 exfs:=λb g l=>by
  rcases MQ.mp (I.stkSub b l) with z | z
  ·exact(hf b g).2.1 z
  ·exact(hf b g).2.2.1 z
 funs:=I.stack
 frf:=I.stkFree
theorem Bl{pins:Nw}{σ:St}{s1:Nz}{own:NG}{js:Ny}{scope:Scope}{fp:NC}{C:Addr}(I:Inv X pins σ H s)(hk:bv scope X.env.scope)(hC:s.heap.objs.size<=C)
  (hf:∀b∈fp,nQ X pins H b) (ho:∀b∈fp,∃o,s.heap.get? b=some o) (hos:s1.os=s.os) (hg:s1.gens=s.gens) (hn:s1.heap.Ns C m) (keep:∀b o,s.heap.get? b=some o->s1.heap.get? b=some o)
  (hown:∀x c,(x,c)∈cellsFrom (C+1) scope.names []->s1.heap.IsCell c none) (hcap:(js.all λj=>scope.names.contains (X.N.getD j Str.empty,NameKind.free))=true) :
  Inv (X.blk (oV own js X.N) s H scope fp C) [] (sU own.length js σ) H s1:=by
 have cl:=fun{x:Str} {c:Addr} (e:(eV X.env scope.names []).lookup x=some c)=>gQ (I.capFree hk) (λ_ _ z=>by simp at z) e;refine⟨Hm I hk hC hf ho,hos,hg▸I.bare,Un.kept keep,⟨m,hn,λi x v e1 Z Y=>?_⟩,λx c e=>?_,I.hok.fresh hC,λx c e=>(I.blkL hk e).elim (λz=>I.hok.fresh (M9 hC (q0P z.2.1))) λz=>I.freeC x c z,λp O=>(nomatch O),I.hok.kept keep,?_⟩
 ·have d:(own++js.map λj=>X.N.getD j Str.empty)[i]?=some x:=e1
  have a:(List.replicate own.length none++js.map λj=>(σ[j]?).join)[i]?=some (some v):=Z
  by_cases y:i<own.length
  ·rw[MW (by rw[List.length_replicate];exact y),List.getElem?_replicate,q07 y]at a
   cases a
  ·have k:own.length<=i:=Nat.le_of_not_lt y
   rw[MV (by rw[List.length_replicate];exact k),List.length_replicate,MA]at a;rw[MV k,MA]at d;cases B:js[i-own.length]? with
   |none=>rw[B]at d;cases d
   |some j=>
    rw[B]at d a;have J:X.N.getD j Str.empty=x:=q0S d;have n:(σ[j]?).join=some v:=q0S a;have G:σ[j]?=some (some v):=by
     cases q:σ[j]? with
     |none=>rw[q]at n;cases n
     |some z=>rw[q]at n;simp at n;rw[n]
    have w:j<X.N.length:=by rw[<- I.len];exact(Mw.mp G).1
    have T:X.N[j]?=some x:=by rw[<- J,q0A,Mv w];rfl
    have r:(x,NameKind.free)∈scope.names:=by
     have q:=Nk.mp hcap j (MB B);rw[J]at q
     simpa using q
    have D:=hk.free _ r rfl;obtain⟨mo,hno,R⟩:=I.loc;obtain⟨u,L,M⟩:=R j x v T G (D.elim (λz=>.inr (.inl z)) λz=>.inr (.inr z));refine⟨u,L,?_⟩;rcases M with⟨g,_⟩ | ⟨g,c,U,S⟩
    ·rcases D with z | z
     ·rw[show X.env.kindOf x=X.env.scope.names.lookup x from rfl,z]at g;cases g
     ·rw[show X.env.kindOf x=X.env.scope.names.lookup x from rfl,z]at g;cases g
    ·obtain⟨c',l⟩:=oj (env:=X.env) (ns:=scope.names) (acc:=[]) (x:=x) (.inr r)
     have:=cl l;rw[U]at this;cases this;refine .inr ⟨?_,c,?_,S.keeps keep⟩
     case refine_2=>
      show(dO X.env scope C).lookup x=some c;unfold dO;rw[iU,List.lookup_append,BK (hk.sep _ r rfl)];exact l
     -- its kind within the block
     rcases Y with z | z | z
     ·exact q0Q z (hk.nl _ r rfl)
     ·exact .inl z
     ·exact .inr z
 ·rcases I.blkL hk e with z | z
  ·exact⟨none,hown x c z.1⟩
  ·obtain⟨v,z⟩:=I.cell x c z
   exact⟨v,z.keeps keep⟩
 ·show(List.replicate own.length none++js.map λj=>(σ[j]?).join).length=(own++js.map λj=>X.N.getD j Str.empty).length
  simp
def FO(env:Env)(ifs:NL):Sem Bool:=forIn ifs true λc r=>if r=true then do let ok <- isTrue c env (eval c env);pure (ForInStep.yield ok) else pure (ForInStep.yield r)
theorem uo{prog:NF}{A:NH}{R:Result->Shared->Prop}{s:Nz}{elt target iter:Expr}{ifs:NL}{scope:Scope}{pos:Pos}{it acc:Value}{env:Env}(I:Nat->Shared->Prop)
  (turn:∀n s,I n s->wpAny (model prog w) A (pyNext it) (λr s₁=>match r with
   |none=>R (.ok .next) s₁
   |some v=>wpAny (model prog w) A (letOwnedTupleGo target it v) (λ_ s₁'=>wpAny (model prog w) A (assign target env v) (λ_ s₂=>
     wpAny (model prog w) A (FO env ifs) (λok s₃=>
      if ok=true then wpAny (model prog w) A (eval elt env) (λx s₄=>
       wpAny (model prog w) A (call (.builtin "list.append") [acc,x]) (λ_ s₅=>∃m,m<n/\I m s₅) (λ_ _=>False) s₄) (λ_ _=>False) s₃
      else ∃m,m<n/\I m s₃) (λ_ _=>False) s₂) (λ_ _=>False) s₁') (λ_ _=>False) s₁) (λ_ _=>False) s)
  (n:Nat) (h:I n s) :
  codeAny (model prog w) A (.compLoop (.ListComp elt [⟨target,iter,ifs,0⟩] scope pos) 0 it acc env) R s:=by
 refine codeAny_loop rfl I (λn s k=>?_) n h;show wpAny _ A ((compTurn (.ListComp elt [⟨target,iter,ifs,0⟩] scope pos) 0 it acc env).onRaise (λx=>do noteFrame x env;theTreesLotGoes x)) _ _ s;refine wpAny_noted ?_;rw[compTurn_list];have up:∀{α:Type} {t:Sem α} {Q Q':α->Shared->Prop} {E':Nu} {s:Nz},wpAny (model prog w) A t Q (λ_ _=>False) s->(∀a s,Q a s->Q' a s)->wpAny (model prog w) A t Q' E' s:=
  λh j=>q0W h j λ_ _ f=>f.elim
 refine q04 (wpAny_standAt (q04 (up (turn n s k) λr s₁ d=>?_)));cases r with
 |none=>exact q05 d
 |some v=>
  refine q04 (up d λ_ s₁' b=>q04 (up b λ_ s₂ i=>q04 (up i λok s₃ c=>?_)));cases ok with
  |false=>exact q05 ⟨rfl,c⟩
  |true=>
   exact q04 (q04 (up c λx s₄ g=>q04 (up g λ_ s₅ e=>q05 (q05 ⟨rfl,e⟩))))
def Ie(X:Cx)(ifs:NL)(t:TT):Prop:=
 ∀(pins:Nw) (s:Nz) (σ:St) (H:Hp) (Q:Bool->Hp->Prop),Inv X pins σ H s->t σ H Q->wpAny (model X.prog X.w) X.A (FO X.env ifs) (TP X pins σ Q) X.xe s
def yY:TT:=λ_ H Q=>Q true H
theorem bQ:Ie X [] yY:=λpins s σ H Q I h=>wpAny_tests_nil ⟨H,I,h⟩
theorem nY{t:TT}(h:PT X c t):Ie X [c] t:=λpins s σ H Q I q=>wpAny_tests_one (h pins s σ H Q I q)
def fN(J:It)(g:TG)(ti:TT)(te:TE)(σ:St)(H:Hp)(Q:List V->Hp->Prop):Prop:=
 ∃W:Nat->Nat->List V->St->Hp->Prop,(∃m,W 0 m [] σ H)/\∀i m acc σ' H',W i m acc σ' H' ->
  acc.length<sizeLine/\((J.stop i H'/\Q acc H') \/
   (J.go i H'/\∃N:List V->St->Hp->Prop,(∀acc' σ2 H2,N acc' σ2 H2->∃m',m'<m/\W (i+1) m' acc' σ2 H2) /\
    ∀x H2,J.yld i H' x H2->g x σ' H2 λσ2 H3=>ti σ2 H3 λb H4=>if b=true then te σ2 H4 λv H5=>N (acc++[v]) σ2 H5 else N acc σ2 H4))
def zw(k:Nat)(js:Ny)(wi:TI)(g:TG)(ti:TT)(te:TE):TE:=λσ H Q=>wi σ H λJ H1=>fN J g ti te (sU k js σ) H1 λacc H'=>∀l,H' l=none->Q (.ref l) (aD H' l (.lst acc))
abbrev gm(its:NA)(n:Nat):Obj:={cls:=.type "list",data:=.seq its.toArray n}
theorem sw{pins:Nw}{σ:St}{H:Hp}{s:Nz}{elt tg iter:Expr}{ifs:NL}{scope:Scope}{pos:Pos}{own:NG}{js:Ny}{ti:TT}{te:TE}{fp:NC}{it:Addr}{tn:Nat->Heap->Prop}{E:Nu}
  {RR:Value->Addr->Result->Shared->Prop} (hc:X.calm=true) (hk:bv scope X.env.scope) (hcap:(js.all λj=>scope.names.contains (X.N.getD j Str.empty,NameKind.free))=true)
  (hg:∀s H fp C,PG (X.blk (oV own js X.N) s H scope fp C) tg g) (hi:∀s H fp C,Ie (X.blk (oV own js X.N) s H scope fp C) ifs ti) (he:∀s H fp C,PE (X.blk (oV own js X.N) s H scope fp C) elt te)
  (I:Inv X pins σ H s) (T:uJ X.prog X.w X.K tg J fp it tn) (st:tn 0 s.heap) (hf:∀b∈fp,nQ X pins H b)
  (hW:fN J g ti te (sU own.length js σ) H Q)
  (hRR:∀(D C:Addr) (s':Nz) (H':Hp) (acc:List V) (m:ND),Q acc H'->H' D=none->Inv X pins σ (aD H' D (.lst acc)) s'->s'.heap.Ns C m->aD H' D (.lst acc) C=none->C≠X.env.locals->X.s₀.heap.objs.size<=C ->
   (∀x c,X.env.cells.lookup x=some c->c≠C)->(∀p∈X.pn++pins,p.1≠C)->RR (.ref D) C (.ok .next) s') :
  wpAny (model X.prog X.w) X.A (newList []) (λacc s₃=>wpAny (model X.prog X.w) X.A (newFunctionEnv scope X.env.globals (eV X.env scope.names []) [] X.env.qual none .none (some X.env)) (λcenv s₄=>
   codeAny (model X.prog X.w) X.A (.compStart (.ListComp elt [⟨tg,iter,ifs,0⟩] scope pos) 0 (.ref it) acc {cenv with scope:=relabel scope X.env}) (RR acc cenv.locals) s₄) E s₃) E s:=by
 obtain⟨W,⟨m0,w0⟩,turn⟩:=hW;refine wpAny_newObj_type (fe ?_);dsimp only;generalize b4:s.heap.push {cls:=.type "list",dict:=none,data:=.seq ([]:List Value).toArray}=H2;generalize c6:pushCells (H2.push {cls:=.type "dict",data:=.dict #[]}) scope.names=h₁;have b1:∀b o,(H2.push {cls:=.type "dict",data:=.dict #[]}).get? b=some o->h₁.get? b=some o:=λb o e=>c6▸pushCells_keeps _ _ b o e;have c4:h₁.Ns H2.objs.size λ_=>none:=by
  have q:(H2.push {cls:=.type "dict",data:=.dict #[]}).Ns H2.objs.size λ_=>none:=Heap.Ns.new ..;exact q.at' λo e=>b1 _ o e
 have b2:∀x c,(x,c)∈cellsFrom (H2.objs.size+1) scope.names []->h₁.IsCell c none:=λx c e=>by
  have ok:=cellsFrom_ok scope.names (H2.push {cls:=.type "dict",data:=.dict #[]}) (H2.objs.size+1) [] ⟨λ_ _ hm=>(nomatch hm),List.Pairwise.nil⟩ (by rw[Heap.size_push];exact MY _);rw[Heap.size_push,c6]at ok;exact(ok.empty x c e).1
 have hC:H2.objs.size=s.heap.objs.size+1:=by rw[<- b4,Heap.size_push]
 have b5:s.heap.objs.size≠H2.objs.size:=by rw[hC];exact MU (M' _)
 have L:s.heap.objs.size<=H2.objs.size:=by rw[hC];exact Nat.le_succ _
 have b8:∀b,b<s.heap.objs.size->b≠H2.objs.size/\b≠s.heap.objs.size:=λb l=>⟨by rw[hC];exact MU (Nat.lt_succ_of_lt l),MU l⟩;have c2:∀b o,s.heap.get? b=some o->h₁.get? b=some o:=λb o e=>b1 b o (Mx _ (b4▸Mx _ e));have c9:h₁.get? s.heap.objs.size=some (gm [] 0):=b1 _ _ (Mx _ (b4▸ME _ rfl));have a0:∀b∈fp,∃o,s.heap.get? b=some o:=λb l=>let ⟨o,e,_⟩:=T.obj 0 _ st b l;⟨o,e⟩
 have c0:tn 0 h₁:=T.keep 0 _ _ st λb _ o e=>c2 b o e;generalize B:X.blk (oV own js X.N) s H scope fp H2.objs.size=Xb;have I₁:Inv Xb [] (sU own.length js σ) H {s with heap:=h₁}:=B▸Bl I hk L hf a0 rfl rfl c4 c2 b2 hcap;have eP:Xb.prog=X.prog:=by rw[<- B];rfl
 have ew:Xb.w=X.w:=by rw[<- B];rfl
 have eK:Xb.K=X.K:=by rw[<- B];rfl
 have eA:Xb.A=X.A:=by rw[<- B];rfl
 have ec:Xb.calm=true:=by rw[<- B];exact hc
 have eE:Xb.env=compEnvC scope (dO X.env scope H2.objs.size) H2.objs.size X.env:=by rw[<- B];rfl
 have ex:Xb.xe=λ_ _=>False:=by rw[<- B];rfl
 have es:Xb.s₀=s:=by rw[<- B];rfl
 have eh:Xb.H₀=H:=by rw[<- B];rfl
 have ef:Xb.fs=lG X.stack:=by rw[<- B];rfl
 have d7:Xb.ex=fp:=by rw[<- B];rfl
 have ep:Xb.pn=[]:=by rw[<- B];rfl
 have eL:Xb.env.locals=H2.objs.size:=by rw[eE];rfl
 have e8:H s.heap.objs.size=none:=I.hok.fresh (MY _)
 -- D is no iterator's,no frame's
 have d1:∀b∈fp,b≠s.heap.objs.size:=λb l e=>by
  obtain⟨o,q⟩:=a0 b l;rw[e]at q;exact q0Q (M4 q) (M_ _)
 have e7:s.heap.objs.size∉Xb.fs:=λz=>by
  rw[ef]at z;rcases MQ.mp (I.stkSub _ z) with q | q
  ·exact q0Q I.lt (by rw[<- q];exact M_ _)
  ·exact I.nofs (MY _) q
 have a5:∀x c,Xb.env.cells.lookup x=some c->c≠s.heap.objs.size:=λx c e q=>by
  rcases I.blkL hk (C:=H2.objs.size) (x:=x) (c:=c) (by rw[eE]at e;exact e) with⟨_,z,_⟩ | z
  ·rw[q]at z
   exact q0Q L (Nat.not_le.mpr z)
  ·obtain⟨v,o,ho,_⟩:=I.cell x c z
   rw[q]at ho;exact q0Q (M4 ho) (M_ _)
 have R:∀{pl:Nw} {H':Hp},(∀b∈fp,H' b=none)->(∀p∈pl,p.1=s.heap.objs.size)->∀b∈fp,nQ Xb pl H' b:=λhn S b l=>by
  refine⟨hn b l,?_,?_,.inl (by rw[d7];exact l),λx c e=>?_,λp c3=>?_⟩
  ·rw[eL];exact(b8 b (let ⟨o,q⟩:=a0 b l;M4 q)).1
  ·rw[ef];intro z
   rcases MQ.mp (I.stkSub b z) with q | q
   ·exact(hf b l).2.1 q
   ·exact(hf b l).2.2.1 q
  ·rcases I.blkL hk (C:=H2.objs.size) (x:=x) (c:=c) (by rw[eE]at e;exact e) with⟨_,z,_⟩ | z
   ·intro q
    rw[q]at z;obtain⟨o,q2⟩:=a0 b l;exact q0Q (MT (M4 q2) L) (Nat.not_lt.mpr (q0P z))
   ·exact(hf b l).2.2.2.2.1 x c z
  ·rw[ep,Nn]at c3
   rw[S p c3];exact(d1 b l).symm
 have a6:∀s₃:Shared,s₃={s with heap:=h₁} ->
   codeAny (model X.prog X.w) X.A (.compLoop (.ListComp elt [⟨tg,iter,ifs,0⟩] scope pos) 0 (.ref it) (.ref s.heap.objs.size) (compEnvC scope (dO X.env scope H2.objs.size) H2.objs.size X.env))
    (RR (.ref s.heap.objs.size) H2.objs.size) s₃:=by
  rintro s₃ rfl;refine uo (λn s'=>∃(i:Nat) (acc:List V) (a:NA) (k:Nat) (σ':St) (H':Hp),Inv Xb [] σ' H' s'/\tn i s'.heap/\(∀b∈fp,H' b=none)/\H' s.heap.objs.size=none/\s'.heap.get? s.heap.objs.size=some (gm a k)/\bj acc a/\W i n acc σ' H')
   ?_ m0 ⟨0,[],[],0,_,H,I₁,c0,λb l=>(hf b l).1,e8,c9,.nil,w0⟩
  rintro n s' ⟨i,acc,a,k,σ',H',I',st',d6,M,e2,Z,w'⟩;obtain⟨c5,tt⟩:=turn i n acc σ' H' w'
  -- the gathered list,pinned
  have Ip:Inv Xb [(s.heap.objs.size,gm a k)] σ' H' s':=I'.pins_of λp S=>by
   have e:p=(s.heap.objs.size,gm a k):=by simpa using S
   subst e;exact⟨e2,M,by rw[eL];exact b5,e7,λv z=>by cases z⟩
  have b0:∀p∈[(s.heap.objs.size,gm a k)],p.1=s.heap.objs.size:=λp S=>by
   have e:p=(s.heap.objs.size,gm a k):=by simpa using S
   rw[e]
  rcases tt with⟨c1,q⟩ | ⟨go,N,hN,step⟩
  ·have d:=T.done Xb eP ew eK ec i _ s' σ' H' (λ_ _=>False) Ip (R d6 b0) st' c1
   rw[eA]at d;refine q0W d (λr s1 hr=>?_) λ_ _ z=>z;obtain⟨rfl,I1⟩:=hr;have e1:s1.heap.get? s.heap.objs.size=some (gm a k):=(I1.pin _ (q0C _ (Mz.mpr rfl))).1;obtain⟨mC,b3,_⟩:=I1.loc;rw[eL]at b3;obtain⟨oC,_,_,hoC,_⟩:=id b3;have e9:H' H2.objs.size=none:=by have:=I1.free;rwa [eL]at this
   have ub:Un (lG X.stack) fp H H' s.heap s1.heap:=by have:=I1.base;rwa [ef,d7,eh,es]at this
   refine hRR _ _ s1 H' acc mC q M ?_ b3 ?_ ?_ ?_ ?_ ?_
   ·-- cW outside
    refine I.call' (ch:=fp) (by have:=I1.os;rwa [es]at this) ⟨λb o e n1 h1 h2=>ub.keep b o e n1 h1 h2,λb o e n1 h1 h2=>ub.slot b o e n1 h1 h2,λb o e n1 h1=>?_,ub.there,λb xs e=>?_,λb o u e=>?_,λb ps e=>?_⟩ ?_ (by have:=I1.bare;exact this) λb l=>?_
    ·rw[aq (λz=>by rw[z]at e;exact q0Q (M4 e) (M_ _))]
     exact ub.free b o e n1 h1
    ·rw[aq (aA (ub.tups b xs e) M)]
     exact ub.tups b xs e
    ·rw[aq (aA (ub.frzs b o u e) M)]
     exact ub.frzs b o u e
    ·obtain⟨more,z⟩:=ub.tbls b ps e
     exact⟨more,by rw[aq (aA z M)];exact z⟩
    ·intro b u e
     have a7:=I1.hok;rw[eP,ew]at a7
     by_cases l:b=s.heap.objs.size
     ·subst l
      rw[ae]at e;cases e;exact⟨q0P c5,a,k,Z,e1⟩
     ·rw[aq l]at e
      refine(a7 b u e).stay (λc v _ z=>z) (λc z=>?_) λc xs z=>?_
      ·rw[aq (aA z M)];exact z
      ·rw[aq (aA z M)];exact z
    ·exact⟨(hf b l).2.2.2.1,(hf b l).2.1,(hf b l).2.2.2.2.1,(hf b l).2.2.2.2.2⟩
   ·rw[aq b5.symm];exact e9
   ·intro z;have:=I.lt;rw[<- z]at this;exact q0Q this (Nat.not_lt.mpr L)
   ·exact M9 I.sz L
   ·intro x c e z
    obtain⟨v,o,ho,_⟩:=I.cell x c e;rw[z]at ho;exact q0Q (M4 ho) (Nat.not_lt.mpr L)
   ·intro p S z
    have:=(I.pin p S).1;rw[z]at this;exact q0Q (M4 this) (Nat.not_lt.mpr L)
  ·have d:=T.item Xb eP ew eK ec i _ s' σ' H' (λ_ _=>False) Ip (R d6 b0) st' go
   rw[eA]at d;refine q0W d (λr s1 hr=>?_) λ_ _ z=>z;obtain⟨u,rfl,d2⟩:=hr;refine q0W d2 (λ_ s2 e6=>?_) λ_ _ z=>z;obtain⟨x,e0,I2,r2,y2,a9,f0⟩:=e6;have f1:=I2.pinned (R f0 b0) (T.obj _ _ a9);have G:=B▸hg s H fp H2.objs.size;have d3:=G _ s2 σ' e0 x u _ f1 r2 (step x e0 y2);rw[eP,ew,eA,ex,eE]at d3;refine q0W d3 (λ_ s3 e5=>?_) λ_ _ z=>z;obtain⟨σ3,H3,I3,q3⟩:=e5;have Gi:=B▸hi s H fp H2.objs.size;have d4:=Gi _ s3 σ3 H3 _ I3 q3;rw[eP,ew,eA,ex,eE]at d4;refine q0W d4 (λb s4 e4=>?_) λ_ _ z=>z;obtain⟨H4,I4,q4⟩:=e4;have U:∀{O:Nz} {Y:Hp} {σ5:St},Inv Xb ([(s.heap.objs.size,gm a k)]++oo fp s2.heap) σ5 Y O->O.heap.get? s.heap.objs.size=some (gm a k)/\Y s.heap.objs.size=none/\tn (i+1) O.heap/\∀b∈fp,Y b=none:=fun{O Y σ5} I5=>by
    have pD:=I5.pin (s.heap.objs.size,gm a k) (q0C _ (q0D _ (Mz.mpr rfl)));refine⟨pD.1,pD.2.1,T.keep _ _ _ a9 λb l o e=>(I5.pin (b,o) (q0C _ (q0C _ (gU l e)))).1,λb l=>?_⟩;obtain⟨o,e,_⟩:=T.obj _ _ a9 b l;exact(I5.pin (b,o) (q0C _ (q0C _ (gU l e)))).2.1
   have bare:∀{O:Nz} {Y:Hp} {σ5:St} {pl:Nw},Inv Xb pl σ5 Y O->Inv Xb [] σ5 Y O:=λI5=>I5.pins_of λp S=>nomatch S;cases b with
   |false=>
    obtain⟨m',hm,w5⟩:=hN _ _ _ q4;obtain⟨a1,a2,a3,a4⟩:=U I4;exact⟨m',hm,i+1,acc,a,k,σ3,H4,bare I4,a3,a4,a2,a1,Z,w5⟩
   |true=>
    have Ge:=B▸he s H fp H2.objs.size;have d5:=Ge _ s4 σ3 H4 _ I4 q4;rw[eP,ew,eA,ex,eE]at d5;refine q0W d5 (λy O e3=>?_) λ_ _ z=>z;obtain⟨v,Y,I5,r5,q5⟩:=e3;obtain⟨m',hm,w5⟩:=hN _ _ _ q5;obtain⟨a1,a2,a3,a4⟩:=U I5;have hl:=Z.length;refine call_meets F.slot_list_append ⟨_,a1,rfl⟩ F.entry_list_append (F.args_list_append_2 _ _) (PySem.list_append s.heap.objs.size a.toArray k y (by rw[MF];omega)) ⟨a1,?_⟩;have qu:=PySem.IsL.update a1 (λa8=>a8.push y);have qe:(a.toArray.push y)=(a++[y]).toArray:=by simp
    rw[qe]at qu;have I6:Inv Xb [] σ3 Y {O with heap:=O.heap.update s.heap.objs.size (Obj.mapSeq λa8=>a8.push y),toks:=O.toks}:=
     (bare I5).turned (λb o l e=>(MD O.heap _ (Ne.symm l)).trans e) a2 (by rw[eL];exact b5) (.inr (by rw[es];exact MY _)) a5 (by rw[ep];intro p S;exact nomatch S)
    refine⟨m',hm,i+1,acc++[v],a++[y],_,σ3,Y,I6,T.keep _ _ _ a3 (λb l o e=>(MD O.heap _ (d1 b l).symm).trans e),a4,a2,qu,Z.append (.cons r5 .nil),w5⟩
 refine codeAny_compStart_list (a6 _ rfl) ?_;exact T.self _ 0 _ _ _ c0 (a6 _ rfl)
theorem bW{elt tg iter:Expr}{ifs:NL}{scope:Scope}{pos:Pos}(own:NG)(js:Ny){wi:TI}{g:TG}{ti:TT}{te:TE}(hc:X.calm=true)(hk:bv scope X.env.scope)
  (hcap:(js.all λj=>scope.names.contains (X.N.getD j Str.empty,NameKind.free))=true) (hw:PI X tg iter wi)
  (hg:∀s H fp C,PG (X.blk (oV own js X.N) s H scope fp C) tg g) (hi:∀s H fp C,Ie (X.blk (oV own js X.N) s H scope fp C) ifs ti) (he:∀s H fp C,PE (X.blk (oV own js X.N) s H scope fp C) elt te)
  (hs:autoParam (∀x,foldedSetIterable iter X.env x=pure x) zz4._auto_1):PE X (.ListComp elt [⟨tg,iter,ifs,0⟩] scope pos) (zw own.length js wi g ti te):=by
 intro c s σ H Q I h;rw[eval_ListComp];refine wpAny_comprehension_free (use:=none) rfl hs (iO (I.capFree hk)) hk.kind hk.loc (b6 (hw c s σ H _ I h) λv s1 h1=>b6 h1 λitv s2 h2=>?_);obtain⟨it,fp,tn,J,H2,rfl,R,T,d,O,L⟩:=h2;refine sw (RR:=λa C=>compPost (model X.prog X.w) X.A X.xe none (EP X c σ Q) a C) (Q:=λa u=>∀l,u l=none->Q (.ref l) (aD u l (.lst a))) hc hk hcap hg hi he R T d O L ?_;intro D C z u a m q M S B r p i n k;refine⟨m,B,λh' y=>?_⟩;exact⟨.ref D,_,S.turned (t':=z.toks) (λb o G e=>(y.2 b G).trans e) r p (.inr i) n k,rfl,q D M⟩
theorem fG{i:Nat}{x:Str}{elt tg iter:Expr}{ifs:NL}{scope:Scope}{pos spos:Pos}{px:Pos}(own:NG)(js:Ny){wi:TI}{g:TG}{ti:TT}{te:TE}(hN:X.N.Nodup)(hxi:X.N[i]?=some x)(hx:Loc X.env.scope x)
  (hsw:swapsWith (.ListComp elt [⟨tg,iter,ifs,0⟩] scope pos) (some (.Name x px)) spos.line X.env=pure true)
  (hc:X.calm=true) (hk:bv scope X.env.scope)
  (hcap:(js.all λj=>scope.names.contains (X.N.getD j Str.empty,NameKind.free))=true) (hw:PI X tg iter wi)
  (hg:∀s H fp C,PG (X.blk (oV own js X.N) s H scope fp C) tg g) (hi:∀s H fp C,Ie (X.blk (oV own js X.N) s H scope fp C) ifs ti) (he:∀s H fp C,PE (X.blk (oV own js X.N) s H scope fp C) elt te)
  (hs:autoParam (∀x,foldedSetIterable iter X.env x=pure x) zz4._auto_1) (hf:autoParam (X.fn x=true\/X.env.scope.names.lookup x=some .local) zz3._auto_1) :
  PS X (.Assign [.Name x px] (.ListComp elt [⟨tg,iter,ifs,0⟩] scope pos) spos) (A4 (zw own.length js wi g ti te) (jN i)):=by
 intro c s σ H Dn I h;rw[exec_Assign_Name_used _ _ _ _ hsw];refine q04 (wpAny_standAt (q04 ?_));show wpAny _ _ (do let _ <- comprehension (.ListComp elt [⟨tg,iter,ifs,0⟩] scope pos) scope X.env _ (newList []) false (eval iter X.env) (some (assign (.Name x px) X.env))) _ _ s;refine q04 (q0W (wpAny_comprehension_free (use:=some (assign (.Name x px) X.env)) (Q:=λ_ k=>SP X c Dn .next k) (E:=X.xe) rfl hs (iO (I.capFree hk)) hk.kind hk.loc ?_) (λ_ k q=>q05 (q05 q)) λ_ _ z=>z);refine(b6 (hw c s σ H _ I h) λv s1 h1=>b6 h1 λitv s2 h2=>?_);obtain⟨it,fp,tn,J,H2,rfl,I2,T,r,f2,hW⟩:=h2;refine sw (RR:=λd C=>compPost (model X.prog X.w) X.A X.xe (some (assign (.Name x px) X.env)) (λ_ k=>SP X c Dn .next k) d C) (Q:=λd S=>∀l,S l=none->jN i (.ref l) σ (aD S l (.lst d)) Dn.nx) hc hk hcap hg hi he I2 T r f2 hW ?_;intro D C k S d m q hD I' U O p G n L;show wpAny _ _ (assign (.Name x px) X.env (.ref D)) _ _ k;refine wpAny_assign_Name (rO I' hN hxi hx (v:=.ref D) rfl (λB R y=>?_) hf);obtain⟨a,y,Z⟩:=y;have M:C≠a:=by
  rcases Z with z | z
  ·rw[z];exact p
  ·exact(n x a z).symm
 refine⟨m,U.sameBut y M,λh' u=>?_⟩;exact⟨_,_,R.turned (t':=B.toks) (λb o Y e=>(u.2 b Y).trans e) O p (.inr G) n L,q D hD⟩
end
section
variable {K:Nv}{g:TG}{ti:TT}{te:TE}{σ:St}{H:Hp}{Q:List V->Hp->Prop}
theorem jg{J:It}{n:Nat}(Pv:Nat->List V->St->Hp->Prop)(h0:Pv 0 [] σ H)(hz:∀i acc σ H,Pv i acc σ H->acc.length<sizeLine)(hi:∀i acc σ H,Pv i acc σ H->i<=n)
  (stop:∀acc σ H,Pv n acc σ H->J.stop n H) (go:∀i acc σ H,i<n->Pv i acc σ H->J.go i H)
  (hs:∀i x acc σ H H2,i<n->Pv i acc σ H->J.yld i H x H2->g x σ H2 λσ2 H3=>ti σ2 H3 λb H4=>if b=true then te σ2 H4 λv H5=>Pv (i+1) (acc++[v]) σ2 H5 else Pv (i+1) acc σ2 H4)
  (he:∀acc σ H,Pv n acc σ H->Q acc H) :
  fN J g ti te σ H Q:=by
 refine⟨λi m acc σ H=>Pv i acc σ H/\m=n+1-i,⟨n+1,h0,rfl⟩,?_⟩;rintro i m acc σ' a ⟨w,rfl⟩;refine⟨hz i acc σ' a w,?_⟩;have hle:=hi i acc σ' a w;rcases Nat.lt_or_ge i n with c | hge
 ·refine .inr ⟨go i acc σ' a c w,λacc' σ2 H2=>Pv (i+1) acc' σ2 H2,λacc' σ2 H2 w2=>⟨n+1-(i+1),?_,w2,rfl⟩,λx H2 y=>hs i x acc σ' a H2 c w y⟩
  have:=hi (i+1) acc' σ2 H2 w2;omega
 ·have e:i=n:=by omega
  subst e;exact .inl ⟨stop acc σ' a w,he acc σ' a w⟩
theorem dI{xs:List V}(Pv:Nat->List V->St->Hp->Prop)(h0:Pv 0 [] σ H)(hz:∀i acc σ H,Pv i acc σ H->acc.length<sizeLine)(hi:∀i acc σ H,Pv i acc σ H->i<=xs.length)
  (hl:∀i acc σ H,Pv i acc σ H->aI K H a xs)
  (hs:∀i x acc σ H,xs[i]?=some x->Pv i acc σ H->g x σ H λσ2 H3=>ti σ2 H3 λb H4=>if b=true then te σ2 H4 λv H5=>Pv (i+1) (acc++[v]) σ2 H5 else Pv (i+1) acc σ2 H4)
  (he:∀acc σ H,Pv xs.length acc σ H->Q acc H):fN (AX K a) g ti te σ H Q:=by
 exact jg (J:=AX K a) (g:=g) (ti:=ti) (te:=te) (Q:=Q) (n:=xs.length) Pv h0 hz hi (λacc σ H w=>⟨xs,hl _ _ _ _ w,MY _⟩)
  (λi acc σ H hlt w=>⟨xs,xs[i],hl _ _ _ _ w,Mv hlt⟩) (λi x acc σ H H2 hlt w y=>by obtain⟨rfl,c⟩:=y;exact hs i x acc σ H2 (c xs (hl _ _ _ _ w)) w) he
theorem j5{lo:Int}{n:Nat}(Pv:Nat->List V->St->Hp->Prop)(h0:Pv 0 [] σ H)(hz:∀i acc σ H,Pv i acc σ H->acc.length<sizeLine)(hi:∀i acc σ H,Pv i acc σ H->i<=n)
  (hs:∀i acc σ H,i<n->Pv i acc σ H->g (.int (lo+i)) σ H λσ2 H3=>ti σ2 H3 λb H4=>if b=true then te σ2 H4 λv H5=>Pv (i+1) (acc++[v]) σ2 H5 else Pv (i+1) acc σ2 H4)
  (he:∀acc σ H,Pv n acc σ H->Q acc H):fN (Af lo n) g ti te σ H Q:=by
 exact jg (J:=Af lo n) (g:=g) (ti:=ti) (te:=te) (Q:=Q) (n:=n) Pv h0 hz hi (λacc σ H w=>MY _) (λi acc σ H hlt w=>hlt) (λi x acc σ H H2 hlt w y=>by obtain⟨rfl,rfl⟩:=y;exact hs i acc σ H2 hlt w) he
end
structure df(P:NF)(w:NJ)(K:Nv)(mg:ND)(base:Heap)(CX:iI)(k:Nat)(x:Str)(ps:NG)(sp:Sp):Prop where
 ex:∃(f:Addr) (fd:NE),aV P w K mg base CX k f fd ps sp/\mg x=some (.ref f)/\PySem.W.keepIn K (.ref f)=true/\dP K fd ps []
structure NB(mg:ND):Prop where
 len:mg "len"=none
 range:mg "range"=none
 list:mg "list"=none
 tuple:mg "tuple"=none
 isinstance:mg "isinstance"=none
 int:mg "int"=none
 bool:mg "bool"=none
 str:mg "str"=none
 reversed:mg "reversed"=none
 all:mg "all"=none
 enumerate:mg "enumerate"=none
 zip:mg "zip"=none
 sorted:mg "sorted"=none
 set:mg "set"=none
 dict:mg "dict"=none
 min:mg "min"=none
 max:mg "max"=none
 sum:mg "sum"=none
 ValueError:mg "ValueError"=none
section
variable {X:Cx}{CX:iI}{k:Nat}{x:Str}{ps:NG}{sp:Sp}{E:XK}{p pos:Pos}{e:Expr}{es:NL}{t:TA}
theorem aH(C:df X.prog X.w X.K X.mg X.base CX k x ps sp)(hr:cO k X.A)(hg:Gl X x)(hx:dl CX X E)(ha:PA X (e::es) t)(hdb:autoParam ((x==("__debug__":Str))=false) zz2._auto_1)
  (hst:autoParam (starEach (e::es) X.env=(false,eval e X.env)::starEach es X.env) zz0._auto_1) (hpl:autoParam ((backTo pos (starEach es X.env)).any (·.1)=false) zz0._auto_1):PE X (.Call (.Name x p) (e::es) [] pos) (m8 sp [] E t):=by
 obtain⟨f,fd,F,a,b,c⟩:=C.ex;exact Ei F hr hg a b c .nil hx ha hdb hst hpl
end
section
variable {X:Cx}{tg:Expr}
def DB(_ j:Int):Prop:=0<j/\j<18446744073709551616
theorem b7:bC X (binaryOp .FloorDiv) (rI DB λi j=>.int (i/j)):=Jf λi j _ _ _ _ _ hc q=>by
 have h1:(0:Int)<j:=hc.1;have h2:j<18446744073709551616:=hc.2;refine floordiv_int ⋯ (by rw[Int.fdiv_eq_ediv_of_nonneg i ⋯];exact q) (.inl (PyProof.noPylong_of_log2 ?_));have h64:j.natAbs.log2<64:=(Nat.log2_lt ⋯).mpr ⋯;omega
theorem dD:∀{ys:NG} {us:NA},bj (ys.map V.str) us->StrsAre us ys
 | [],_,.nil=>.nil
 |y::ys,_,.cons r t=>by
  obtain⟨tk,rfl⟩:=r;exact .cons y tk (dD t)
def yZ(K:Nv):V->List V->Hp->VK->Prop:=λx xs H Q=>∃z p ys,x=.str z/\xs=[.ref p]/\(aI K H p (ys.map V.str)\/cy K H p (ys.map V.str))/\(ys.map (·.length)).sum+ys.length*z.length<=16777216/\Q (.str (Txt.join z ys)) H
theorem D6:Jn X "str.join" (yZ X.K):=by
 intro pins s σ H x xs v us Q I rx rv h;obtain⟨z,p,ys,rfl,rfl,hs,d,q⟩:=h;obtain⟨t,rfl⟩:=rx;obtain⟨u,rfl,e⟩:=rv.one;cases e;rcases hs with hs | hs
 ·obtain⟨c,r,b,_⟩:=I.list hs
  exact join_list b.isList (by simpa using dD r) d λa k=>⟨.str _,H,I.tok k,⟨a,rfl⟩,q⟩
 ·obtain⟨c,r,b,_⟩:=I.tuple hs
  exact join_tuple b (by simpa using dD r) d λa k=>⟨.str _,H,I.tok k,⟨a,rfl⟩,q⟩
def Hr(x:Str):It:=⟨λi _=>i<x.cps.size,λi H v H'=>H'=H/\∃c,x.cps[i]?=some c/\v=.str ⟨#[c]⟩,λi _=>x.cps.size<=i⟩
theorem B6{K:Nv}(x:Str)(t:Tok)(it:Addr):uJ P w K tg (Hr x) [it] it (λi h=>h.IsStrIter it (strIterType x) x t i) where
 mem:=by simp
 obj:=λi h g b l=>by
  have e:b=it:=by simpa using l
  subst e;obtain⟨o,e,c,d⟩:=g;exact⟨o,e,λv z=>by rw[d]at z;cases z⟩
 keep:=λi h m g k=>by
  obtain⟨o,e,c,d⟩:=g;exact⟨o,k it (by simp) o e,c,d⟩
 item:=by
  intro X L D M J i j s σ H E I hf g hg;subst L D M;obtain⟨C,B,T,y,r,q⟩:=hf it (by simp);have G:i<x.cps.size:=hg;have p:x.cps[i]?=some x.cps[i]:=Array.getElem?_eq_getElem G;have dW:∀m,m.IsStrIter it (strIterType x) x t (i+1)->Heap.SameBut it s.heap m->∃u,(some (Value.str ⟨#[x.cps[i]]⟩ s.toks))=some u /\
    wpAny (model X.prog X.w) X.A (letOwnedTupleGo tg (.ref it) u) (λ_ R=>∃v H',Inv X j σ H' R/\bx v u/\(Hr x).yld i H v H'/\R.heap.IsStrIter it (strIterType x) x t (i+1)/\∀b∈[it],H' b=none) E {s with heap:=m,toks:=s.toks+1}:=λm st' S=>by
   have U:Inv X j σ H {s with heap:=m,toks:=s.toks+1}:=I.turned (λb o l e=>(S.2 b l).trans e) C B y r q;obtain⟨o,e,c,d⟩:=id st';refine⟨_,rfl,v7 (s:={s with heap:=m,toks:=s.toks+1}) e c d ?_ ⟨.str ⟨#[x.cps[i]]⟩,H,U,⟨_,rfl⟩,⟨rfl,_,p,rfl⟩,st',λb l=>(hf b l).1⟩⟩;unfold strIterType
   split<;>decide
  cases n:x.cps.all (· < 128) with
  |true=>
   have a:strIterType x="str_ascii_iterator":=by unfold strIterType;rw[n];rfl
   rw[a]at g dW ⊢;exact wpAny_pyNext_ascii_item g p dW
  |false=>
   have a:strIterType x="str_iterator":=by unfold strIterType;rw[n];rfl
   rw[a]at g dW ⊢;exact wpAny_pyNext_wide_item g p dW
 done:=by
  intro X L D M J i j s σ H E I hf g hg;subst L D M;obtain⟨C,B,T,y,r,q⟩:=hf it (by simp);have G:x.cps.size<=i:=hg;have p:x.cps[i]?=none:=Array.getElem?_eq_none G;cases n:x.cps.all (· < 128) with
  |true=>
   have a:strIterType x="str_ascii_iterator":=by unfold strIterType;rw[n];rfl
   rw[a]at g;exact wpAny_pyNext_ascii_end (I.ok.hd J) g p λm O=>⟨rfl,I.turned (t':=s.toks) (λb o l e=>O b o l e) C B y r q⟩
  |false=>
   have a:strIterType x="str_iterator":=by unfold strIterType;rw[n];rfl
   rw[a]at g;exact wpAny_pyNext_wide_end (I.ok.hd J) g p λm O=>⟨rfl,I.turned (t':=s.toks) (λb o l e=>O b o l e) C B y r q⟩
 self:=λA i s Q E g h=>by
  cases n:x.cps.all (· < 128) with
  |true=>
   have a:strIterType x="str_ascii_iterator":=by unfold strIterType;rw[n];rfl
   rw[a]at g;exact wpAny_pyIter_striter_ascii g h
  |false=>
   have a:strIterType x="str_iterator":=by unfold strIterType;rw[n];rfl
   rw[a]at g;exact wpAny_pyIter_striter_wide g h
def FY(tl:TE):TI:=λσ H R=>tl σ H λv H1=>∃x,v=.str x/\R (Hr x) H1
theorem Cf{tl:TE}(hl:PE X l tl):PI X tg l (FY tl):=by
 intro a s σ H R I h;refine b6 (hl a s σ H _ I h) λv c ⟨x,H1,d,g,i⟩=>?_;obtain⟨x,rfl,q⟩:=i;obtain⟨t,rfl⟩:=g;refine wpAny_pyIter_strU ?_;refine⟨c.heap.objs.size,[c.heap.objs.size],_,_,H1,rfl,d.kept (t':=c.toks) λb o e=>Mx _ e,B6 x t _,⟨_,ME _ rfl,rfl,rfl⟩,λb j=>?_,q⟩;have e:b=c.heap.objs.size:=by simpa using j
 subst e;exact d.fpOk (MY _) (d.hok.fresh (MY _))
def ID(K:Nv)(a:Addr)(n:Nat):It:=
 ⟨λi H=>∃xs x,aI K H a xs/\i<n/\xs[n-1-i]?=some x,λi H x H'=>H'=H/\∀xs,aI K H a xs->xs[n-1-i]?=some x,λi _=>i=n⟩
theorem CJ{K:Nv}(a it:Addr)(n:Nat):uJ P w K tg (ID K a n) [it] it (λi h=>h.IsRevIter it a ((n:Int)-1-(i:Int))) where
 mem:=by simp
 obj:=λi h g b l=>by
  have e:b=it:=by simpa using l
  subst e;obtain⟨o,e,c,d⟩:=g;exact⟨o,e,λv z=>by rw[d]at z;cases z⟩
 keep:=λi h q g k=>g.at λo e=>k it (by simp) o e
 item:=by
  intro X y r B S i j s σ H E I hf g hg;subst y r B;obtain⟨xs,x,O,R,M⟩:=hg;obtain⟨its,U,p,hz⟩:=I.list O;obtain⟨u,hu,Y⟩:=U.get M;obtain⟨L,J,f2,G,D,C⟩:=hf it (by simp);have e:(n:Int)-1-(i:Int)=((n-1-i:Nat):Int):=by omega
  have m:=g;rw[e]at m;refine wpAny_pyNext_rev_item m p.isList (x:=u) (by simpa using hu) λq st' T=>?_;have e2:((n-1-i:Nat):Int)-1=(n:Int)-1-((i+1:Nat):Int):=by omega
  rw[e2]at st';have I1:Inv X j σ H {s with heap:=q }:=I.turned (t':=s.toks) (λb o l e=>(T.2 b l).trans e) L J G D C;obtain⟨o,e,c,d⟩:=id st';exact⟨u,rfl,v7 (s:={s with heap:=q }) e c d nofun ⟨x,H,I1,Y,⟨rfl,λys Z=>by rw[I.list_inj Z O];exact M⟩,st',λb l=>(hf b l).1⟩⟩
 done:=by
  intro X y r B S i j s σ H E I hf g hg;subst y r B;obtain⟨L,J,f2,G,D,C⟩:=hf it (by simp);have R:i=n:=hg;subst R;have e:(i:Int)-1-(i:Int) = -1:=by omega
  rw[e]at g;exact wpAny_pyNext_rev_end (I.ok.hd S) g λq eb=>⟨rfl,I.turned (t':=s.toks) (λb o l e=>eb b o l e) L J G D C⟩
 self:=λ_ _ _ _ _ g h=>wpAny_pyIter_revIter g h
def Hh(K:Nv)(ta:TA):TI:=λσ H R=>ta σ H λvs H1=>∃a xs,vs=[.ref a]/\aI K H1 a xs/\R (ID K a xs.length) H1
theorem B4{a:Expr}{ta:TA}{p pos:Pos}(hg:Gl X "reversed")(hm:X.mg "reversed"=none)(ha:PA X [a] ta)(hs:autoParam (starEach [a] X.env=[(false,eval a X.env)]) zz0._auto_1):PI X tg (.Call (.Name "reversed" p) [a] [] pos) (Hh X.K ta):=by
 intro d s σ H R I h;refine Call_ (eO I hg hm boot_reversed (PyProof.Rows.callWith_type1 (b6 (ha pos d s σ H _ I h) λus c ⟨vs,H1,j,v,w⟩=>?_) hs rfl));obtain⟨l,g,rfl,y,q⟩:=w;obtain⟨u,rfl,r⟩:=v.one;cases r;obtain⟨k,n,x,hz⟩:=j.list y;have i:=n.length;refine call_reversed_list x.isList ?_;have B:k.toArray.size=g.length:=by rw[MF,i]
 rw[B];have C:Inv X d σ H1 {c with heap:=c.heap.push (revObj l ((g.length:Int)-1))}:=j.kept (t':=c.toks) λb o e=>Mx _ e;have m:(c.heap.push (revObj l ((g.length:Int)-1))).IsRevIter c.heap.objs.size l ((g.length:Int)-1-((0:Nat):Int)):=⟨_,ME _ rfl,rfl,by simp[revObj]⟩;refine wpAny_pyIter_revIter m ?_;refine⟨c.heap.objs.size,[c.heap.objs.size],_,_,H1,rfl,C,CJ l _ g.length,m,λb z=>?_,q⟩;have e:b=c.heap.objs.size:=by simpa using z
 subst e;exact j.fpOk (MY _) (j.hok.fresh (MY _))
def Gk:V->Option Int->Option Int->Hp->VK->Prop:=λx lo hi H Q=>∃z,x=.str z/\z.length<=sizeLine/\Q (.str (Txt.slice z lo hi)) H
theorem pF:IE X Gk:=by
 intro a s σ H x v vl vu lo hi sl Q I rx hs pl pu h;obtain⟨z,rfl,b,q⟩:=h;obtain⟨t,rfl⟩:=rx;have dW:∀c k,EP X a σ Q (.str (Txt.slice z lo hi) c) {s with toks:=k}:=λc k=>⟨.str _,H,I.tok k,⟨c,rfl⟩,q⟩;refine⟨"str",_,F.slot_str_getitem.lookup,typeIs_str _ _ _,?_⟩;cases pl with
 |none=>
  cases pu with
  |none=>exact wpAny_getItem_str_slice (l:=none) (u:=none) (st:=none) hs rfl (post_val_or_str ⟨M9 (Txt.slice_le z _ _) b,dW⟩)
  |int j uj=>exact wpAny_getItem_str_slice (l:=none) (u:=some (j,uj)) (st:=none) hs rfl (post_val_or_str ⟨M9 (Txt.slice_le z _ _) b,dW⟩)
 |int i ui=>
  cases pu with
  |none=>exact wpAny_getItem_str_slice (l:=some (i,ui)) (u:=none) (st:=none) hs rfl (post_val_or_str ⟨M9 (Txt.slice_le z _ _) b,dW⟩)
  |int j uj=>exact wpAny_getItem_str_slice (l:=some (i,ui)) (u:=some (j,uj)) (st:=none) hs rfl (post_val_or_str ⟨M9 (Txt.slice_le z _ _) b,dW⟩)
def I_(sep:Str)(ta:TA):TE:=λσ H Q=>ta σ H λvs H1=>∃x,vs=[.str x]/\x.length<=1000/\sep.length<=1000/\Q (.str (Txt.join sep (x.cps.toList.reverse.map λc=>(⟨#[c]⟩:Str)))) H1
theorem pU{e:Expr}{ta:TA}{sep:Str}{j:Nat}{ap p1 p2 cpos:Pos}(hc:X.calm=true)(hg:Gl X "reversed")(hm:X.mg "reversed"=none)(ha:PA X [e] ta)
  (hfew:autoParam (((backTo cpos (starEach [.Call (.Name "reversed" p1) [e] [] p2] X.env)).all (λx=>!x.1)&&(backToKw cpos (keywordEach [] X.env)).all (λx=>x.1.isSome)
   && decide ([Expr.Call (.Name "reversed" p1) [e] [] p2].length+([]:List Keyword).length+(if([]:List Keyword).isEmpty then 0 else 1)<30))=true) zz0._auto_1)
  (hline:autoParam ((ap.endLine==cpos.line)=true) zz0._auto_1) (hs:autoParam (starEach [e] X.env=[(false,eval e X.env)]) zz0._auto_1) :
  PE X (.Call (.Attribute (.Constant (.str sep) j p0) "join" ap) [.Call (.Name "reversed" p1) [e] [] p2] [] cpos) (I_ sep ta):=by
 intro c s σ H Q I h;refine wpAny_Call_method_late rfl hfew hline rfl (b6 (qk (X:=X) c s σ H (λv H1=>v=.str sep/\H1=H) I ⟨rfl,rfl⟩) λv l ⟨x,H1,n,y,D⟩=>?_);obtain⟨rfl,rfl⟩:=D;obtain⟨t0,rfl⟩:=y;refine⟨"str",_,F.plainAttrs_str,F.slot_str_join,F.type_str_join,typeIs_str _ _ _,(λa z=>nomatch z),?_⟩;refine Calls.callWith_builtin rfl (Calls.evalArgs_plain ?_);show wpAny _ _ (spliced ((false,eval (.Call (.Name "reversed" p1) [e] [] p2) X.env)::[])) _ _ l;refine Calls.spliced_cons ?_;refine Call_ (eO n hg hm boot_reversed (PyProof.Rows.callWith_type1 (b6 (ha p2 c l σ H1 _ n h) λus d ⟨vs,H2,i,w,B⟩=>?_) hs rfl));obtain⟨x,rfl,C,g,q⟩:=B;obtain⟨u,rfl,r⟩:=w.one;obtain⟨t,rfl⟩:=r;have hsl:sizeLine=16777216:=q0V;refine kU ⋯ (Calls.spliced_nil ?_);have m:Inv X c σ H2 {d with heap:=d.heap.push (w9 x t ((x.length:Int)-1)),toks:=d.toks+1+1}:=i.kept λb o e=>Mx _ e;have J:=i.fpOk (b:=d.heap.objs.size) (H':=H2) (MY _) (i.hok.fresh (MY _));obtain⟨S,R,f2,O,M,L⟩:=J;refine Dq (m.ok.hd hc) (I:=d.heap.objs.size) (x:=x) (t:=t) ⟨_,ME _ rfl,rfl,rfl⟩ C g λp t' k keep U Y T=>?_;obtain⟨h',g',d',k',o'⟩:=p;cases U;cases Y;cases T;exact⟨.str _,H2,m.turned (t':=k) (λb o G e=>keep b o G e) S R O M L,⟨t',rfl⟩,q⟩
def yi:V->Value
 | .ty n=>.type n
 | .ref a=>.ref a
 |_=>.none
def kl:V->Bool
 | .ty _=>true
 | .ref _=>true
 |_=>false
theorem u6(r:bx c u)(h:kl c=true):u=yi c:=by
 cases c with
 |ty n=>exact r
 |ref a=>exact r
 |_=>cases h
def DC(K:Nv):List V->Hp->VK->Prop:=λxs H Q=>∃x c t b,xs=[x,c]/\kl c=true/\gK K H x t/\PySem.W.kitOne K t (yi c)=some b/\Q (.bl b) H
theorem bI:dH X (.builtin "isinstance") (DC X.K):=by
 intro pins s σ H xs us Q I r h;obtain⟨x,c,t,b,rfl,i,ty,e,q⟩:=h;obtain⟨u,v,rfl,g,d⟩:=r.two;rw[u6 d i];exact By I g ty e λa=>⟨.bl b,H,I.tok a,rfl,q⟩
theorem iL(K:Nv)(n:String):PySem.W.kitOne K (.type n) (.type n)=some true:=by
 unfold PySem.W.kitOne;rw[q07 (beq_self_eq_true _)]
inductive Dt where
 |non | bl (b:Bool) | int (i:Int) | str (x:Str) | lst (ds:List Dt) | tup (ds:List Dt)
mutual
def kt(K:Nv)(H:Hp):Dt->V->Prop
 | .non,v=>v=.non
 | .bl b,v=>v=.bl b
 | .int i,v=>v=.int i
 | .str x,v=>v=.str x
 | .lst ds,v=>∃a xs,v=.ref a/\aI K H a xs/\dM K H ds xs
 | .tup ds,v=>∃a xs,v=.ref a/\cy K H a xs/\dM K H ds xs
def dM(K:Nv)(H:Hp):List Dt->List V->Prop
 | [],xs=>xs=[]
 |d::ds,xs=>∃x r,xs=x::r/\kt K H d x/\dM K H ds r
end
mutual
def Dt.dep:Dt->Nat
 | .lst ds=>Dt.deps ds+1
 | .tup ds=>Dt.deps ds+1
 |_=>0
def Dt.deps:List Dt->Nat
 | []=>0
 |d::ds=>max (Dt.dep d) (Dt.deps ds)
end
theorem dM.length{K:Nv}:∀{ds:List Dt} {xs:List V},dM K H ds xs->xs.length=ds.length
 | [],_,h=>by unfold dM at h;rw[h];rfl
 |d::ds,xs,h=>by
  unfold dM at h;obtain⟨x,r,rfl,_,h2⟩:=h;simp[dM.length h2]
theorem dM.get{K:Nv}:∀{ds:List Dt} {xs:List V} {j:Nat} {x:V},dM K H ds xs->xs[j]?=some x->∃d,ds[j]?=some d/\kt K H d x
 | [],_,_,_,h,e=>by unfold dM at h;rw[h]at e;simp at e
 |d::ds,xs,j,x,h,e=>by
  unfold dM at h;obtain⟨y,r,rfl,h1,h2⟩:=h;cases j with
  |zero=>simp at e;subst e;exact⟨d,rfl,h1⟩
  |succ j=>
   obtain⟨d',e1,e2⟩:=dM.get (j:=j) h2 (by simpa using e);exact⟨d',by simpa using e1,e2⟩
theorem i7:∀{ds:List Dt} {j:Nat} {d:Dt},ds[j]?=some d->d.dep<=Dt.deps ds
 | [],_,_,e=>by simp at e
 |d'::ds,0,d,e=>by simp at e;subst e;unfold Dt.deps;omega
 |d'::ds,j+1,d,e=>by
  have:=i7 (ds:=ds) (j:=j) (by simpa using e);unfold Dt.deps;omega
theorem gH(n:Nat):(List.range n).all (λ_=>true)=true:=by simp
theorem CY{pins:Nw}{σ:St}(I:Inv X pins σ H s):∀(n:Nat) (d:Dt) (A:NH) {v u:V} {vv uu:Value},d.dep<=n->A.units+n<cLine->kt X.K H d v->kt X.K H d u->bx v vv->bx u uu->SeqAt.EqAt A s vv uu true:=by
 intro n
 induction n with
 |zero=>
  intro d A v u vv uu S hA h1 h2 l k;cases d with
  |non=>unfold kt at h1 h2;subst h1 h2;have:=gv (A:=A) (s:=s) l k rfl rfl;exact this
  |bl b=>unfold kt at h1 h2;subst h1 h2;have:=gv (A:=A) (s:=s) l k rfl rfl;simpa[wU]using this
  |int i=>unfold kt at h1 h2;subst h1 h2;have:=gv (A:=A) (s:=s) l k rfl rfl;simpa[wU]using this
  |str x=>unfold kt at h1 h2;subst h1 h2;have:=gv (A:=A) (s:=s) l k rfl rfl;simpa[wU]using this
  |lst ds=>unfold Dt.dep at S;omega
  |tup ds=>unfold Dt.dep at S;omega
 |succ n ih=>
  intro d A v u vv uu S hA h1 h2 l k;cases d with
  |non=>unfold kt at h1 h2;subst h1 h2;have:=gv (A:=A) (s:=s) l k rfl rfl;exact this
  |bl b=>unfold kt at h1 h2;subst h1 h2;have:=gv (A:=A) (s:=s) l k rfl rfl;simpa[wU]using this
  |int i=>unfold kt at h1 h2;subst h1 h2;have:=gv (A:=A) (s:=s) l k rfl rfl;simpa[wU]using this
  |str x=>unfold kt at h1 h2;subst h1 h2;have:=gv (A:=A) (s:=s) l k rfl rfl;simpa[wU]using this
  |lst ds=>
   unfold kt at h1 h2;obtain⟨a,J,rfl,ha,o⟩:=h1;obtain⟨b,D,rfl,hb,m⟩:=h2;cases l;cases k
   by_cases p:a=b
   ·subst p;exact SeqAt.EqAt.same _
   ·unfold Dt.dep at S
    obtain⟨g,O,pa,_⟩:=I.list ha;obtain⟨c,M,pb,_⟩:=I.list hb;have l1:=O.length;have l2:=M.length;have l3:=o.length;have l4:=m.length
    have a0:g.toArray.size=c.toArray.size:=by simp;omega
    have q:=SeqAt.RcAt.lists (A:=A) (s:=s) (e:=λ_=>true) pa.isList pb.isList a0 ⋯ λj g1 g2=>by
     have C:j<g.length:=by simpa using g1
     have B:j<c.length:=by simpa using g2
     have L:J[j]?=some J[j]:=Mv ⋯;have G:D[j]?=some D[j]:=Mv ⋯;obtain⟨d,Z,z⟩:=o.get L;obtain⟨d',Y,y⟩:=m.get G;rw[Z]at Y;cases Y
     obtain⟨w1,U,w⟩:=O.get L;obtain⟨w2,T,r⟩:=M.get G;rw[Mv C]at U;rw[Mv B]at T;cases U;cases T
     have R:=i7 Z;simp only[Nm];exact ih d A.in1 ⋯ (by show A.units+1+n<cLine;omega) z y w r
    rw[gH]at q;exact SeqAt.EqAt.of_refs p q
  |tup ds=>
   unfold kt at h1 h2;obtain⟨a,J,rfl,ha,o⟩:=h1;obtain⟨b,D,rfl,hb,m⟩:=h2;cases l;cases k
   by_cases p:a=b
   ·subst p;exact SeqAt.EqAt.same _
   ·unfold Dt.dep at S
    obtain⟨g,O,pa,_⟩:=I.tuple ha;obtain⟨c,M,pb,_⟩:=I.tuple hb;have l1:=O.length;have l2:=M.length;have l3:=o.length;have l4:=m.length
    have q:=SeqAt.RcAt.tuples (A:=A) (s:=s) (e:=λ_=>true) (show s.heap.IsTuple a g.toArray from pa) (show s.heap.IsTuple b c.toArray from pb) ⋯ λj g1 g2=>by
     have C:j<g.length:=by simpa using g1
     have B:j<c.length:=by simpa using g2
     have L:J[j]?=some J[j]:=Mv ⋯;have G:D[j]?=some D[j]:=Mv ⋯;obtain⟨d,Z,z⟩:=o.get L;obtain⟨d',Y,y⟩:=m.get G;rw[Z]at Y;cases Y
     obtain⟨w1,U,w⟩:=O.get L;obtain⟨w2,T,r⟩:=M.get G;rw[Mv C]at U;rw[Mv B]at T;cases U;cases T
     have R:=i7 Z;simp only[Nm];exact ih d A.in1 ⋯ (by show A.units+1+n<cLine;omega) z y w r
    have e0:((List.range (min g.toArray.size c.toArray.size)).all (λ_=>true)&&g.toArray.size==c.toArray.size)=true:=by
     rw[gH,Bool.true_and];simp;omega
    rw[e0]at q;exact SeqAt.EqAt.of_refs p q
def Hl(K:Nv)(neg:Bool):R2:=λx y H Q=>
 (∃ds,Dt.deps ds<=40/\((kt K H (.lst ds) x/\kt K H (.lst ds) y)\/(kt K H (.tup ds) x/\kt K H (.tup ds) y))/\Q (.bl (!neg)) H) \/
 (∃a b xs ys,x=.ref a/\y=.ref b/\aI K H a xs/\aI K H b ys/\xs.length≠ys.length/\Q (.bl neg) H)
theorem Gr(hu:X.A.units+64<cLine):bC X (compareOp .Eq) (Hl X.K false):=by
 intro p s σ H x y v u Q I rx ry h;rcases h with⟨ds,hd,h,q⟩ | ⟨a,b,o,n,rfl,rfl,B,z,hne,q⟩
 ·have dW:EP X p σ Q (.bool true) s:=⟨.bl true,H,I,rfl,q⟩
  have item:∀{o n:List V} {g c:NA},dM X.K H ds o->dM X.K H ds n->bj o g->bj n c->∀j (h1:j<g.toArray.size) (h2:j<c.toArray.size),SeqAt.EqAt X.A.in1 s g.toArray[j] c.toArray[j] true:=fun{o n g c} k i m l j g1 g2=>by
   have M:=m.length;have L:=l.length;have Y:=k.length;have U:=i.length
   have R:j<g.length:=by simpa using g1
   have O:j<c.length:=by simpa using g2
   have T:o[j]?=some o[j]:=Mv ⋯;have S:n[j]?=some n[j]:=Mv ⋯;obtain⟨d,e1,J⟩:=k.get T;obtain⟨d',e2,G⟩:=i.get S;rw[e1]at e2;cases e2
   obtain⟨w1,f1,D⟩:=m.get T;obtain⟨w2,Z,C⟩:=l.get S;rw[Mv R]at f1;rw[Mv O]at Z;cases f1;cases Z
   have hdep:=i7 e1;simp only[Nm];exact CY I 40 d X.A.in1 ⋯ (by show X.A.units+1+40<cLine;omega) J G D C
  rcases h with⟨h1,h2⟩ | ⟨h1,h2⟩
  ·unfold kt at h1 h2
   obtain⟨a,o,rfl,B,k⟩:=h1;obtain⟨b,n,rfl,z,i⟩:=h2;cases rx;cases ry
   obtain⟨g,m,w,_⟩:=I.list B;obtain⟨c,l,r,_⟩:=I.list z;have M:=m.length;have L:=l.length;have Y:=k.length;have U:=i.length
   have q:=SeqAt.RcAt.lists (A:=X.A) (s:=s) (e:=λ_=>true) w.isList r.isList (by simp;omega) ⋯ (item k i m l);rw[gH]at q;exact q _ _ _ _ dW
  ·unfold kt at h1 h2
   obtain⟨a,o,rfl,B,k⟩:=h1;obtain⟨b,n,rfl,z,i⟩:=h2;cases rx;cases ry
   obtain⟨g,m,w,_⟩:=I.tuple B;obtain⟨c,l,r,_⟩:=I.tuple z;have M:=m.length;have L:=l.length;have Y:=k.length;have U:=i.length
   have q:=SeqAt.RcAt.tuples (A:=X.A) (s:=s) (e:=λ_=>true) (show s.heap.IsTuple a g.toArray from w) (show s.heap.IsTuple b c.toArray from r) ⋯ (item k i m l);have e0:((List.range (min g.toArray.size c.toArray.size)).all (λ_=>true)&&g.toArray.size==c.toArray.size)=true:=by
    rw[gH,Bool.true_and];simp;omega
   rw[e0]at q;exact q _ _ _ _ dW
 ·cases rx;cases ry
  obtain⟨g,m,w,_⟩:=I.list B;obtain⟨c,l,r,_⟩:=I.list z;have M:=m.length;have L:=l.length
  exact SeqAt.RcAt.lists_lengths w.isList r.isList (by simp;omega) ⋯ _ _ _ _ ⟨.bl false,H,I,rfl,q⟩
theorem Gs(hu:X.A.units+64<cLine):bC X (compareOp .NotEq) (Hl X.K true):=by
 intro p s σ H x y v u Q I rx ry h;rcases h with⟨ds,hd,h,q⟩ | ⟨a,b,o,n,rfl,rfl,B,z,hne,q⟩
 ·have dW:EP X p σ Q (.bool false) s:=⟨.bl false,H,I,rfl,q⟩
  have item:∀{o n:List V} {g c:NA},dM X.K H ds o->dM X.K H ds n->bj o g->bj n c->∀j (h1:j<g.toArray.size) (h2:j<c.toArray.size),SeqAt.EqAt X.A.in1 s g.toArray[j] c.toArray[j] true:=fun{o n g c} k i m l j g1 g2=>by
   have M:=m.length;have L:=l.length;have Y:=k.length;have U:=i.length
   have R:j<g.length:=by simpa using g1
   have O:j<c.length:=by simpa using g2
   have T:o[j]?=some o[j]:=Mv ⋯;have S:n[j]?=some n[j]:=Mv ⋯;obtain⟨d,e1,J⟩:=k.get T;obtain⟨d',e2,G⟩:=i.get S;rw[e1]at e2;cases e2
   obtain⟨w1,f1,D⟩:=m.get T;obtain⟨w2,Z,C⟩:=l.get S;rw[Mv R]at f1;rw[Mv O]at Z;cases f1;cases Z
   have hdep:=i7 e1;simp only[Nm];exact CY I 40 d X.A.in1 ⋯ (by show X.A.units+1+40<cLine;omega) J G D C
  rcases h with⟨h1,h2⟩ | ⟨h1,h2⟩
  ·unfold kt at h1 h2
   obtain⟨a,o,rfl,B,k⟩:=h1;obtain⟨b,n,rfl,z,i⟩:=h2;cases rx;cases ry
   obtain⟨g,m,w,_⟩:=I.list B;obtain⟨c,l,r,_⟩:=I.list z;have M:=m.length;have L:=l.length;have Y:=k.length;have U:=i.length
   have q:=SeqAt.RcNeAt.lists (A:=X.A) (s:=s) (e:=λ_=>true) w.isList r.isList (by simp;omega) ⋯ (item k i m l);rw[gH]at q;exact q _ _ _ _ dW
  ·unfold kt at h1 h2
   obtain⟨a,o,rfl,B,k⟩:=h1;obtain⟨b,n,rfl,z,i⟩:=h2;cases rx;cases ry
   obtain⟨g,m,w,_⟩:=I.tuple B;obtain⟨c,l,r,_⟩:=I.tuple z;have M:=m.length;have L:=l.length;have Y:=k.length;have U:=i.length
   have q:=SeqAt.RcNeAt.tuples (A:=X.A) (s:=s) (e:=λ_=>true) (show s.heap.IsTuple a g.toArray from w) (show s.heap.IsTuple b c.toArray from r) ⋯ (item k i m l);have e0:((List.range (min g.toArray.size c.toArray.size)).all (λ_=>true)&&g.toArray.size==c.toArray.size)=true:=by
    rw[gH,Bool.true_and];simp;omega
   rw[e0]at q;exact q _ _ _ _ dW
 ·cases rx;cases ry
  obtain⟨g,m,w,_⟩:=I.list B;obtain⟨c,l,r,_⟩:=I.list z;have M:=m.length;have L:=l.length
  exact SeqAt.RcNeAt.lists_lengths w.isList r.isList (by simp;omega) ⋯ _ _ _ _ ⟨.bl true,H,I,rfl,q⟩
end
end L2
namespace aB
abbrev G4:=List Nat
abbrev aB:=List G4
def rect(p:aB)(r c:Nat):Prop:=p.length=r/\∀x∈p,x.length=c
def Br(p:aB)(i j:Nat):Nat:=(p.getD i []).getD j 0
def mirror(p:aB):aB:=p.map List.reverse
def col(p:aB)(i:Nat):G4:=p.reverse.map λx=>x.getD i 0
def aT(p:aB):aB:=(List.range (p.headD []).length).map (col p)
def aJ:Nat->aB->aB
 |0,p=>p
 |n+1,p=>aJ n (aT p)
def turned(p:aB)(t:Nat):aB:=aJ (t%4) (if 4<=t then mirror p else p)
theorem CV{i:Nat}(h:rect p r c)(hi:i<r):(p.getD i []).length=c:=by
 have a:i<p.length:=by rw[h.1];exact hi
 rw[q0A,Mv a];exact h.2 _ (MG a)
theorem aW(h:rect p r c)(hr:0<r):(p.headD []).length=c:=by
 have:=CV h hr;cases p with
 |nil=>have:=h.1;simp at this;omega
 |cons x p=>simpa using this
theorem bT(h:rect p r c):rect (mirror p) r c:=by
 refine⟨by simp[mirror,h.1],λx b=>?_⟩;obtain⟨y,a,rfl⟩:=Nj.mp b;rw[MS];exact h.2 y a
theorem bw(h:rect p r c)(hr:0<r):rect (aT p) c r:=by
 refine⟨by unfold aT;rw[My,q0J,aW h hr],λx a=>?_⟩;obtain⟨i,_,rfl⟩:=Nj.mp a;simp[col,h.1]
theorem jc{i j:Nat}(h:rect p r c)(hi:i<r)(hj:j<c):Br (mirror p) i j=Br p i (c-1-j):=by
 have a:i<p.length:=by rw[h.1];exact hi
 have b:(p[i]).length=c:=h.2 _ (MG a);unfold Br mirror;rw[q0A (l:=List.map _ _),MA,Mv a,q0A (l:=p),Mv a];simp only[Option.map_some,q0L];rw[q0A,List.getElem?_reverse (by rw[b];exact hj),b,q0A]
theorem cJ{i j:Nat}(h:rect p r c)(hr:0<r)(hi:i<c)(hj:j<r):Br (aT p) i j=Br p (r-1-j) i:=by
 unfold Br aT;rw[aW h hr,q0A (l:=List.map _ _),MA,List.getElem?_range hi];simp only[Option.map_some,q0L];unfold col;rw[q0A,MA,List.getElem?_reverse (by rw[h.1];exact hj),h.1];have a:r-1-j<p.length:=by rw[h.1];omega
 rw[Mv a,q0A (l:=p),Mv a]
 rfl
theorem jh(hp:rect p r c)(hq:rect q r c)(h:∀i j,i<r->j<c->Br p i j=Br q i j):p=q:=by
 refine List.ext_getElem (by rw[hp.1,hq.1]) λi h1 h2=>?_;have a:=hp.2 _ (MG h1);have d:=hq.2 _ (MG h2);refine List.ext_getElem (by rw[a,d]) λj b g=>?_;have e:=h i j (by rw[<- hp.1];exact h1) (by rw[<- a];exact b);unfold Br at e
 simpa[q0A,Mv,h1,h2,b,g]using e
theorem E7(p:aB):mirror (mirror p)=p:=by simp[mirror,MP,Function.comp_def]
theorem B5(h:rect p r c)(hr:0<r)(hc:0<c):aT (aT (aT (aT p)))=p:=by
 have h1:=bw h hr;have h2:=bw h1 hc;have b:=bw h2 hr;have e:=bw b hc;refine jh e h λi j a d=>?_;rw[cJ b hc a d,cJ h2 hr ⋯ a,cJ h1 hc ⋯ ⋯,cJ h hr ⋯ ⋯]
 congr 1<;>omega
theorem o0(h:rect p r c)(hr:0<r)(hc:0<c):mirror (aT p)=aT (aT (aT (mirror p))):=by
 have m:=bT h;have h1:=bw m hr;have h2:=bw h1 hc;have d:=bw h2 hr;have q:=bw h hr;refine jh (bT q) d λi j a b=>?_;rw[jc q a b,cJ h hr a ⋯,cJ h2 hr a b,cJ h1 hc ⋯ a,cJ m hr ⋯ ⋯,jc h ⋯ ⋯]
 congr 1<;>omega
theorem cX:∀(n:Nat) {p:aB} {r c:Nat},rect p r c->0<r->0<c->rect (aJ n p) (if n%2=0 then r else c) (if n%2=0 then c else r)
 |0,_,_,_,h,_,_=>h
 |n+1,p,r,c,h,hr,hc=>by
  have:=cX n (bw h hr) hc hr;show rect (aJ n (aT p)) _ _
  by_cases e:n%2=0
  ·rw[q07 e,q07 e]at this
   rw[q06 ⋯,q06 ⋯];exact this
  ·rw[q06 e,q06 e]at this
   rw[q07 ⋯,q07 ⋯];exact this
theorem cP(h:rect p r c)(hr:0<r)(hc:0<c)(t:Nat):rect (turned p t) (if t%2=0 then r else c) (if t%2=0 then c else r):=by
 unfold turned;have e:t%4%2=t%2:=by omega
 rw[<- e]
 split
 ·exact cX _ (bT h) hr hc
 ·exact cX _ h hr hc
theorem cB(a b:Nat)(p:aB):aJ a (aJ b p)=aJ (b+a) p:=by
 induction b generalizing p with
 |zero=>rw[Nat.zero_add];rfl
 |succ b ih=>show aJ a (aJ b (aT p))=_;rw[ih,Nat.add_right_comm];rfl
theorem eY(h:rect p r c)(hr:0<r)(hc:0<c)(n:Nat):aJ n p=aJ (n%4) p:=by
 induction n using Nat.strongRecOn generalizing p r c with
 |ind n ih=>
  by_cases a:n<4
  ·rw[Nat.mod_eq_of_lt a]
  ·obtain⟨m,rfl⟩:∃m,n=m+4:=⟨n-4,⋯⟩
   have e:aJ (m+4) p=aJ m (aT (aT (aT (aT p)))):=rfl;rw[e,B5 h hr hc,ih m ⋯ h hr hc]
   congr 1
   omega
theorem iq(h:rect p r c)(hr:0<r)(hc:0<c):∀n,mirror (aJ n p)=aJ (3*n) (mirror p):=by
 intro n
 induction n generalizing p r c with
 |zero=>rfl
 |succ n ih=>
  show mirror (aJ n (aT p))=_;rw[ih (bw h hr) hc hr,o0 h hr hc];have e:aT (aT (aT (mirror p)))=aJ 3 (mirror p):=rfl;rw[e,cB]
  congr 1
  omega
def after(t u:Nat):Nat:=if u<4 then t/4*4+(t+u)%4 else(1-t/4)*4+(u+8-t)%4
def cW(t:Nat):Nat:=if t<4 then(4-t)%4 else t
theorem bN(h:rect p r c)(hr:0<r)(hc:0<c){t u:Nat}(ht:t<8)(hu:u<8):turned (turned p t) u=turned p (after t u):=by
 have m:=bT h;unfold turned after
 by_cases h1:4<=t<;>by_cases h2:4<=u
 ·rw[q07 h1,q07 h2,q06 ⋯,q06 ⋯]
  rw[iq m hr hc,E7,cB,eY h hr hc]
  congr 1;omega
 ·rw[q07 h1,q06 h2,q07 ⋯,q07 ⋯]
  rw[cB,eY m hr hc]
  congr 1;omega
 ·rw[q06 h1,q07 h2,q06 ⋯,q07 ⋯]
  rw[iq h hr hc,cB,eY m hr hc]
  congr 1;omega
 ·rw[q06 h1,q06 h2,q07 ⋯,q06 ⋯]
  rw[cB,eY h hr hc]
  congr 1;omega
theorem nn(p:aB):turned p 0=p:=rfl
theorem gw{t u:Nat}(ht:t<8)(hu:u<8):after t u<8:=by unfold after;split<;>omega
theorem lv{t:Nat}(ht:t<8):cW t<8:=by unfold cW;split<;>omega
theorem xQ{t:Nat}(ht:t<8):after t (cW t)=0:=by
 unfold after cW
 by_cases h:t<4
 ·rw[q07 h,q07 ⋯];omega
 ·rw[q06 h,q06 ⋯];omega
theorem xT{t:Nat}(ht:t<8):after (cW t) t=0:=by
 unfold after cW
 by_cases h:t<4
 ·rw[q07 h,q07 ⋯];omega
 ·rw[q06 h,q06 ⋯];omega
theorem i'(h:rect p r c)(hr:0<r)(hc:0<c){t:Nat}(ht:t<8):turned (turned p t) (cW t)=p:=by
 rw[bN h hr hc ht (lv ht),xQ ht];rfl
end aB
namespace QL
open PySem L2 aB
def tx(r:Ny):Str:=⟨r.toArray⟩
def av(p:aB):List V:=p.map λr=>V.str (tx r)
theorem aw(r:Ny):(tx r).length=r.length:=by show r.toArray.size=r.length;simp
theorem cE(r:Ny):(tx r).cps.toList=r:=by show r.toArray.toList=r;simp
theorem ao(p:aB):(av p).length=p.length:=by unfold av;simp
theorem dY(p:aB):av p=(p.map tx).map V.str:=by unfold av;rw[MP];rfl
theorem br{p:aB}{i:Nat}(h:i<p.length):(av p)[i]?=some (V.str (tx p[i])):=by unfold av;rw[MA,Mv h];rfl
theorem cV(p:aB)(r:Ny):av (p++[r])=av p++[V.str (tx r)]:=by unfold av;simp
theorem D0:∀(ys:List (List Nat)),Txt.join (Str.ofString "") (ys.map tx)=tx ys.flatten
 | []=>rfl
 |y::ys=>by
  have key:∀(zs:List (List Nat)) (a:Ny),(zs.map tx).foldl (λacc (p:Str)=>acc++(Str.ofString "").cps++p.cps) a.toArray=(a++zs.flatten).toArray:=by
   intro zs
   induction zs with
   |nil=>intro a;simp
   |cons z zs ih=>
    intro a;rw[M8,List.foldl_cons];have e:a.toArray++(Str.ofString "").cps++(tx z).cps=(a++z).toArray:=by
     have b:(Str.ofString "").cps=#[]:=rfl;rw[b];show a.toArray ++ #[]++z.toArray=_;simp
    rw[e,ih];simp
  show(⟨(ys.map tx).foldl (λacc (p:Str)=>acc++(Str.ofString "").cps++p.cps) (tx y).cps⟩:Str)=_;show(⟨(ys.map tx).foldl (λacc (p:Str)=>acc++(Str.ofString "").cps++p.cps) y.toArray⟩:Str)=_;rw[key]
  rfl
theorem ft(r:Ny):Txt.join (Str.ofString "") (r.map λc=>(⟨#[c]⟩:Str))=tx r:=by
 have e:(r.map λc=>(⟨#[c]⟩:Str))=(r.map λc=>[c]).map tx:=by rw[MP];rfl
 rw[e,D0]
 congr 1
 clear e
 induction r with
 |nil=>rfl
 |cons c r ih=>simp[ih]
def eG(p:aB):Prop:=p.length<=64/\∀r∈p,r.length<=64
theorem eG.of(h:rect p r c)(hr:r<=64)(hc:c<=64):eG p:=⟨by rw[h.1];exact hr,λx hx=>by rw[h.2 x hx];exact hc⟩
theorem aY{n:Nat}(h:n<=1000000):n<sizeLine:=by have:=q0V;omega
theorem ar{n:Nat}(h:n<=1000000):n<=sizeLine:=by have:=q0V;omega
theorem af{H:Hp}(h:H l=none):ax H (aD H l o):=λb u e=>by rw[aq (aA e h)];exact e
theorem cM{H0:Hp}(s:ax H0 H)(h:H0 l=none):ax H0 (aD H l o):=λb u e=>by rw[aq (aA e h)];exact s b u e
theorem i_{i:Nat}(h:rect p r c)(hi:i<r):∃hl:i<p.length,(p[i]).length=c:=⟨by rw[h.1];exact hi,h.2 _ (MG _)⟩
def fC(H:Hp)(p:aB)(Q:VK):Prop:=∀(l:Addr) (H':Hp),H l=none->H' l=some (.lst (av p))->ax H H'->Q (.ref l) H'
theorem xB{α:Type}{xs:List α}{i:Int}(h0:0<=i)(h1:i<xs.length):∃v,v∈xs/\je xs i=some v:=by
 have hb:i.toNat<xs.length:=by omega
 obtain⟨j,a⟩:∃j:Nat,i=(j:Int):=⟨i.toNat,⋯⟩;subst a;exact⟨xs[j]'⋯,MG _,bJ (Mv ⋯)⟩
theorem uH(K:Nv):PySem.W.kitOne K (.type "int") (.type "bool")=some false:=by kernel_rfl
end QL
namespace L2
open PySem PySem.Spec PyProof.Rows
section
variable {X:Cx}
theorem rp:dH X (.builtin "len") (λxs H Q=>∃p ys,xs=[.ref p]/\aI X.K H p ys/\Q (.int ys.length) H):=λpins s σ H xs us Q I r ⟨p,ys,e,h,q⟩=>k_ pins s σ H xs us Q I r ⟨p,ys,e,.inl h,q⟩
theorem Bk:dH X (.builtin "len") (λxs H Q=>∃p ys,xs=[.ref p]/\cy X.K H p ys/\Q (.int ys.length) H):=λpins s σ H xs us Q I r ⟨p,ys,e,h,q⟩=>k_ pins s σ H xs us Q I r ⟨p,ys,e,.inr h,q⟩
theorem v5{K:Nv}{g:TG}{ti:TT}{te:TE}{σ:St}{H:Hp}{Q:List V->Hp->Prop}{xs:List V}(Pv:Nat->List V->St->Hp->Prop)(h0:Pv 0 [] σ H)(hz:∀i acc σ H,Pv i acc σ H->acc.length<sizeLine)(hi:∀i acc σ H,Pv i acc σ H->i<=xs.length)
  (hl:∀i acc σ H,Pv i acc σ H->aI K H a xs)
  (hs:∀i x acc σ H,xs.reverse[i]?=some x->Pv i acc σ H->g x σ H λσ2 H3=>ti σ2 H3 λb H4=>if b=true then te σ2 H4 λv H5=>Pv (i+1) (acc++[v]) σ2 H5 else Pv (i+1) acc σ2 H4)
  (he:∀acc σ H,Pv xs.length acc σ H->Q acc H):fN (ID K a xs.length) g ti te σ H Q:=by
 have c:∀{i:Nat} {x:V},i<xs.length->xs[xs.length-1-i]?=some x->xs.reverse[i]?=some x:=fun{i x} hi e=>by rw[List.getElem?_reverse hi];exact e
 exact jg (J:=ID K a xs.length) (g:=g) (ti:=ti) (te:=te) (Q:=Q) (n:=xs.length) Pv h0 hz hi (λacc σ H w=>rfl)
  (λi acc σ H hlt w=>⟨xs,xs[xs.length-1-i]'⋯,hl _ _ _ _ w,hlt,Mv ⋯⟩) (λi x acc σ H H2 hlt w y=>by obtain⟨rfl,d⟩:=y;exact hs i x acc σ H2 (c hlt (d xs (hl _ _ _ _ w))) w) he
theorem Eu(i j:Int):(B7 (.int i) (.int j)=true)=True:=eq_true rfl
theorem IC{ta:TE}(ha:PE X a ta)(he:∀whole,isTrue a X.env whole=(do let v <- whole;standAt a.pos;holding [v] (truthy v))):PT X a (rG ta):=by
 intro b s σ H Q I h;rw[he];refine q04 (b6 (ha b s σ H _ I h) λv s1 ⟨x,H1,d,c,k,e,q⟩=>?_);subst e;cases c;exact q04 (wpAny_standAt (q0X (wpAny_truthy_bool ⟨H1,d,q⟩)))
def Am(J:It)(g:TG)(tb:TS)(D:fE)(σ:St)(H:Hp):Prop:=∃W:Nat->Nat->St->Hp->Prop,(∃m,W 0 m σ H)/\∀i m σ H,W i m σ H ->
 (J.stop i H/\D.nx σ H)\/(J.go i H/\∃N:St->Hp->Prop,(∀σ' H',N σ' H'->∃m',m'<m/\W (i+1) m' σ' H')/\∀x H',J.yld i H x H'->g x σ H' λσ2 H2=>tb {D with nx:=N,ct:=N,bk:=D.nx} σ2 H2)
def C5(wi:TI)(g:TG)(tb:TS):TS:=λD σ H=>wi σ H λJ H1=>Am J g tb D σ H1
theorem aX{tg iter:Expr}{body:List Stmt}{wi:TI}{pos:Pos}(hp:PassesOwn (model X.prog X.w) X.A X.env X.xe)(hc:X.calm=true)(hi:PI X tg iter wi)(hg:PG X tg g)(hb:vb X body tb)
  (hs:autoParam (∀x,foldedSetIterable iter X.env x=pure x) zz4._auto_1):PS X (.For tg iter body [] pos) (C5 wi g tb):=G5 hp hc hi hg hb hs
section
variable {K:Nv}{g:TG}{tb:TS}{D:fE}{σ:St}{H:Hp}
theorem bz{xs:List V}(Pv:Nat->St->Hp->Prop)(h0:Pv 0 σ H)(hl:∀i σ H,i<=xs.length->Pv i σ H->aI K H a xs)
  (hs:∀i x σ H,xs[i]?=some x->Pv i σ H->g x σ H λσ2 H2=>tb {D with nx:=Pv (i+1),ct:=Pv (i+1),bk:=D.nx} σ2 H2) (hd:∀σ H,Pv xs.length σ H->D.nx σ H):Am (AX K a) g tb D σ H:=BX Pv h0 hl hs hd
theorem Ce{xs:List V}(Pv:Nat->St->Hp->Prop)(h0:Pv 0 σ H)(hl:∀i σ H,i<=xs.length->Pv i σ H->cy K H a xs)
  (hs:∀i x σ H,xs[i]?=some x->Pv i σ H->g x σ H λσ2 H2=>tb {D with nx:=Pv (i+1),ct:=Pv (i+1),bk:=D.nx} σ2 H2) (hd:∀σ H,Pv xs.length σ H->D.nx σ H):Am (Hs K a) g tb D σ H:=EH Pv h0 hl hs hd
theorem bK{lo:Int}{n:Nat}(Pv:Nat->St->Hp->Prop)(h0:Pv 0 σ H)
  (hs:∀i σ H,i<n->Pv i σ H->g (.int (lo+i)) σ H λσ2 H2=>tb {D with nx:=Pv (i+1),ct:=Pv (i+1),bk:=D.nx} σ2 H2) (hd:∀σ H,Pv n σ H->D.nx σ H):Am (Af lo n) g tb D σ H:=AC Pv h0 hs hd
end
end
theorem bi:bootBuiltins "len"=some (.builtin "len"):=by decide +kernel
theorem c7:bootBuiltins "list"=some (.type "list"):=by decide +kernel
theorem wm:bootBuiltins "tuple"=some (.type "tuple"):=by decide +kernel
theorem GQ:bootBuiltins "int"=some (.type "int"):=by decide +kernel
theorem Ff:bootBuiltins "bool"=some (.type "bool"):=by decide +kernel
theorem F8:bootBuiltins "str"=some (.type "str"):=by decide +kernel
theorem bG:bootBuiltins "isinstance"=some (.builtin "isinstance"):=by decide +kernel
theorem Gc:bootBuiltins "all"=some (.builtin "all"):=by decide +kernel
theorem Ak:bootBuiltins "sorted"=some (.builtin "sorted"):=by decide +kernel
end L2
namespace PtM
open PySem PySem.Builtin.Str PySem.StrLaws
theorem sub_iff(z s:Ny)(i:Nat)(h:i+s.length<=z.length):subAt ⟨z.toArray⟩ ⟨s.toArray⟩ i=true↔z=z.take i++s++z.drop (i+s.length):=by
 have e:subAt ⟨z.toArray⟩ ⟨s.toArray⟩ i=true↔(z.drop i).take s.length=s:=by
  unfold subAt;show(z.toArray.extract i (i+s.toArray.size)==s.toArray)=true↔_;rw[beq_iff_eq];simp only[MF,List.extract_toArray,List.extract_eq_take_drop,List.toArray_inj];rw[Nat.add_sub_cancel_left];exact⟨λq=>by have:=q0R Array.toList q;simpa using this,λq=>by rw[q]⟩
 rw[e]
 constructor
 ·intro q
  conv=>lhs;rw[<- List.take_append_drop i z,<- List.take_append_drop s.length (z.drop i),q,List.drop_drop]
  rw[Nb]
 ·intro q
  have b:(z.take i).length=i:=by rw[Nf];omega
  have a:∀A B:List Nat,A.length=i->z=A++s++B->(z.drop i).take s.length=s:=λA B c e=>by
   rw[e,Nb,<- c,List.drop_left,List.take_left]
  exact a _ _ b q
end PtM
namespace L2
open PySem PySem.Spec PyProof.Rows
section
variable {X:Cx}{a b c d:Expr}{ta tb tc td:TE}{pos:Pos}
def Gx(K:Nv):List V->Hp->VK->Prop:=λxs H Q=>∃(p:Addr) (bs:List Bool),xs=[.ref p]/\aI K H p (bs.map V.bl)/\Q (.bl (bs.all id)) H
theorem uc:∀{bs:List Bool} {us:NA} {i:Nat} {u:Value},bj (bs.map V.bl) us->us[i]?=some u->∃k,bs[i]?=some k/\u=.bool k
 | [],_,_,_,.nil,e=>by simp at e
 |k::bs,_,0,u,.cons r _,e=>by simp at e;subst e;exact⟨k,rfl,r⟩
 |k::bs,_,i+1,u,.cons _ t,e=>by
  obtain⟨k',h1,h2⟩:=uc (i:=i) t (by simpa using e);exact⟨k',by simpa using h1,h2⟩
theorem AL(bs:List Bool):((List.range bs.length).all λi=>(bs[i]?).getD true)=bs.all id:=by
 rw[Bool.eq_iff_iff,Nk,Nk]
 constructor
 ·intro h x c
  obtain⟨i,b,e⟩:=List.getElem_of_mem c;have q:=h i (List.mem_range.mpr b);rw[Mv b,q0L,e]at q;exact q
 ·intro h i b
  have a:=List.mem_range.mp b;rw[Mv a,q0L];exact h _ (MG a)
theorem DH(hc:X.calm=true):dH X (.builtin "all") (Gx X.K):=by
 intro pins s σ H xs us Q I r h;obtain⟨p,bs,rfl,x,q⟩:=h;obtain⟨u,rfl,w⟩:=r.one;cases w;obtain⟨a,m,d,_⟩:=I.list x;have g:p<s.heap.objs.size:=by obtain⟨_,e,_⟩:=d.isList;exact M4 e
 have c:a.length=bs.length:=by rw[<- m.length,My]
 refine call_all_walk (wpAny_pyIter_list d.isList ?_);refine⟨s.heap.objs.size,[s.heap.objs.size,p],[s.heap.objs.size],a.toArray.size,_,_,λi=>(bs[i]?).getD true,rfl,Walks.list (A:=X.A.in1) (I.ok.hd hc) _ p (MU g) a.toArray,
  ⟨⟨_,ME _ rfl,rfl,rfl⟩,d.isList.push _⟩,λi v s' Q' E' B j=>?_,λh' n z=>?_⟩
 ·obtain⟨k,e,rfl⟩:=uc (i:=i) m (by simpa using B)
  dsimp only at j;rw[e,q0L]at j;exact wpAny_truthy_bool j
 ·have e:((List.range a.toArray.size).all λi=>(bs[i]?).getD true)=bs.all id:=by rw[MF,c];exact AL bs
  rw[e];exact⟨.bl _,H,I.kept (t':=n) λb o l=>z b o (λy=>by rw[Mz.mp y]at l;exact M_ _ (M4 l)) (Mx _ l),rfl,q⟩
end
end L2
namespace QL
open PySem L2 aB PySem.Builtin PySem.Builtin.Str
theorem wZ(row:Ny)(i k:Nat)(h:i+k<=row.length):((List.range k).map λm=>i+m).filterMap (λj=>row[j]?)=(row.drop i).take k:=by
 rw[List.filterMap_map]
 induction k with
 |zero=>simp
 |succ k ih=>
  rw[q0M,List.filterMap_append,ih ⋯,q0E,List.getElem?_drop];have e:i+k<row.length:=by omega
  simp[Mv e]
def Cj(n:Nat)(d:Int):Option Int->Int
 |none=>d
 |some i=>max 0 (min (if i<0 then i+(n:Int) else i) (n:Int))
theorem wo(n d:Nat)(v:Option Int):Cj n (d:Int) v=((HT.sIx n d v:Nat):Int):=by
 cases v with
 |none=>rfl
 |some v=>
  show max 0 (min (if v<0 then v+(n:Int) else v) (n:Int))=(((if v<0 then(v+(n:Int)).toNat else min v.toNat n:Nat)):Int)
  by_cases a:v<0
  ·rw[q07 a,q07 a,Int.max_def,Int.min_def]
   split<;>split at * <;> omega
  ·rw[q06 a,q06 a,Int.max_def,Int.min_def]
   split<;>split at * <;> omega
theorem yK(lo hi:Option Int)(n:Nat):strSliceIndices lo hi 1 n=sliceRange (Cj n ((0:Nat):Int) lo) (Cj n (n:Int) hi) 1:=by cases lo<;>cases hi<;>rfl
theorem mG(row:Ny)(lo hi:Option Int):Txt.slice (tx row) lo hi=tx ((row.drop (HT.sIx row.length 0 lo)).take (HT.sIx row.length row.length hi-HT.sIx row.length 0 lo)):=by
 have hl:=HT.sIx_le row.length 0 (MZ _) lo;have hh:=HT.sIx_le row.length row.length (MY _) hi;have key:strSliceIndices lo hi 1 (tx row).length=(List.range (HT.sIx row.length row.length hi-HT.sIx row.length 0 lo)).map λm=>HT.sIx row.length 0 lo+m:=by
  rw[aw,yK,wo,wo];generalize HT.sIx row.length 0 lo=a;generalize HT.sIx row.length row.length hi=b;unfold sliceRange;have en:(if(1:Int)>0 then(if(a:Int)<(b:Int) then((b:Int)-(a:Int)+1-1)/1 else 0) else(if(a:Int)>(b:Int) then((a:Int)-(b:Int)-1-1)/(-1) else 0)).toNat=b-a:=by
   rw[q07 nofun]
   split<;>omega
  show(List.range (if(1:Int)>0 then(if(a:Int)<(b:Int) then((b:Int)-(a:Int)+1-1)/1 else 0) else(if(a:Int)>(b:Int) then((a:Int)-(b:Int)-1-1)/(-1) else 0)).toNat).map (fun(k:Nat)=>((a:Int)+1*(k:Int)).toNat)=_;rw[en];refine q0K λm _=>?_;omega
 unfold Txt.slice;rw[key];generalize HT.sIx row.length 0 lo=a at hl ⊢;generalize HT.sIx row.length row.length hi=b at hh ⊢
 by_cases hab:a+(b-a)<=row.length
 ·have e:(((List.range (b-a)).map λm=>a+m).filterMap λj=>(tx row).cps[j]?)=(row.drop a).take (b-a):=by
   rw[<- wZ row a (b-a) hab]
   congr 1
   funext j
   show row.toArray[j]?=row[j]?;simp
  rw[e]
  split
  ·rename_i hw
   simp at hw;rw[aw]at hw;have ha0:a=0:=by omega
   have hb0:b-a=row.length:=by omega
   rw[ha0,Nt];rw[ha0]at hb0;rw[hb0,Nd]
  ·rfl
 ·exact q0Q hab ⋯
end QL
namespace L2
open PySem PySem.Spec PyProof.Rows
section
variable {X:Cx}{K:Nv}{tg:Expr}
theorem gz(hK:X.K=K):dH X (.builtin "isinstance") (DC K):=hK▸bI
theorem ju(hK:X.K=K):Hk X (xu K):=hK▸Dg
end
end L2
namespace PySem
open Sem (wp)
def TrD(cp:Value->Prop)(h base:Heap)(e:Addr)(cls:Value)(od:NK)(fl:Value):Prop:=
 ∃oe vs T oT ts,h.get? e=some oe/\oe.cls=cls/\oe.dict=od/\oe.data=.fields vs/\vs[1]?=some (.ref T)/\base.get? T=none/\T≠e/\h.get? T=some oT/\oT.data=.fields ts/\ts[3]?=some fl/\∃cx,vs[2]?=some cx/\cp cx
structure iB(cp:Value->Prop)(base:Heap)(l:List Env)(e:Addr)(cls:Value)(od:NK)(fl:Value)(h:Heap):Prop where
 st:base.StaysIn h
 new:base.get? e=none
 ff:h.FunFrames base l
 tr:TrD cp h base e cls od fl
theorem iB.there{cp:Value->Prop}{base:Heap}{cls fl:Value}{od:NK}(x:iB cp base l e cls od fl h):∃oe vs,h.get? e=some oe/\oe.cls=cls/\oe.dict=od/\oe.data=.fields vs:=by
 obtain⟨oe,vs,_,_,_,a,b,c,d,_⟩:=x.tr;exact⟨oe,vs,a,b,c,d⟩
theorem oA(o:Obj)(f:Array Value->Array Value):(Obj.mapFields f o).dict=o.dict:=by unfold Obj.mapFields;split<;>rfl
section
variable {cp:Value->Prop}{M:Model}{A:NH}{E:Nu}{s:Nz}{base:Heap}{env:Env}{outer:List Env}{L e:Addr}{Q:Unit->Shared->Prop}
theorem oa{cls fl:Value}{od:NK}(x:iB cp base l e cls od fl s.heap)(h:∀h',iB cp base l e cls od .none h'->s.heap.UpToSlots h'->Q () {s with heap:=h' }):wpAny M A (setFlight (.ref e) none) Q E s:=by
 obtain⟨w,vs,T,oT,r,u,z,y,v,h1,k,m,p,g,B,n⟩:=x.tr;have j:3<r.size:=(Array.getElem?_eq_some_iff.mp B).1;have d:∀b,b≠T->(s.heap.update T (Obj.mapFields (·.setIfInBounds 3 Value.none))).get? b=s.heap.get? b:=λb a=>MD _ _ (Ne.symm a);have i:∀b o,s.heap.get? b=some o->(∀vs,o.data≠.fields vs)->b≠T:=λb o a c q=>by rw[q,p]at a;injection a with a;subst a;exact c r g
 unfold setFlight;refine q04 (wpAny_field u v h1 ?_);rw[q07 (show(Value.ref T != Value.none)=true from by simp)];refine wpAny_setField p g j (h _ ⟨λb o a=>(d b λq=>by rw[q,k]at a;cases a).trans (x.st b o a),x.new,x.ff.of_keeps λb o a c=>⟨o,(d b (i b o a c)).trans a,rfl⟩,?_⟩ λb o a c=>⟨o.slots,(d b (i b o a c)).trans a⟩);exact⟨w,vs,T,_,_,(d e (Ne.symm m)).trans u,z,y,v,h1,k,m,ML _ p (Obj.isFreed_of_fields (Obj.data_mapFields g _)),Obj.data_mapFields g _,by simp[j],n⟩
theorem CZ{oe:Obj}{head:Value}{hadNext:Bool}(hfr:A.frames=some (env::outer))(hl:s.heap.FunFrames base (env::outer))(hf:env.frame=some L)
  (he:s.heap.get? e=some oe) (hkb:base.StaysIn s.heap) (hen:base.get? e=none) (hd:oe.data=.fields vs) (hsz:1<vs.size) (hcx:∃cx,vs[2]?=some cx/\cp cx)
  (h:∀h',iB cp base (env::outer) e oe.cls oe.dict (rawInt L) h'->s.heap.UpToSlots h'->Q () {s with heap:=h' }) :
  wpAny M A (do let a <- frameOf env;let pl <- entryPlaceOf L hadNext;let b <- EntryCells.newEntry head a .none (rawInt L) .none pl;setField (.ref e) 1 b) Q E s:=by
 have p:e∉(env::outer).filterMap (·.frame):=λy=>by
  obtain⟨_,o,w,d⟩:=hl.mem y;rw[he]at w;injection w with w;subst w;exact d vs hd
 refine q04 (wpAny_frameOf_fun hfr hl hf λg i=>?_);refine q04 (wpAny_entryPlaceOf λpl l=>?_);unfold EntryCells.newEntry newFields;refine q04 (wpAny_newObj_type ?_ (l.sizeOk5 _ _ _ _ _));have n:g.get? e=some oe:=(i.2.1 e p).trans he;have k:base.StaysIn g:=λb o c=>(i.2.1 b λy=>by rw[(hl.mem y).1]at c;cases c).trans (hkb b o c);generalize v:({cls:=.type "traceback",dict:=none,data:=.fields ([head,.ref L,.none,rawInt L,.none]++(if pl.isEmpty then List.replicate 6 Value.none else pl)).toArray}:Obj)=To;have B:To.data=.fields ([head,.ref L,.none,rawInt L,.none]++(if pl.isEmpty then List.replicate 6 Value.none else pl)).toArray:=by rw[<- v]
 have m:=Mx (h:=g) To n;have u:g.objs.size≠e:=Nat.ne_of_gt (M4 n);have keep:∀b o,b≠e->g.get? b=some o->((g.push To).update e (Obj.mapFields (·.setIfInBounds 1 (Value.ref g.objs.size)))).get? b=some o:=λb o z c=>by
  rw[MD _ _ (Ne.symm z)];exact Mx _ c
 have j:∀b o,s.heap.get? b=some o->(∀vs,o.data≠.fields vs)->b≠e:=λb o c d q=>by
  rw[q,he]at c
  injection c with c
  subst c;exact d vs hd
 refine wpAny_setField m hd hsz (h _ ?_ ?_)
 ·have r:=Obj.data_mapFields hd (·.setIfInBounds 1 (Value.ref g.objs.size))
  refine⟨λb o c=>keep b o (λq=>by rw[q,hen]at c;cases c) (k b o c),hen,hl.of_keeps λb o c d=>?_,?_⟩
  ·obtain⟨C,x⟩:=i.2.2 b o c
   exact⟨_,keep b _ (j b o c d) x,rfl⟩
  ·refine⟨_,_,g.objs.size,To,_,ML _ m (Obj.isFreed_of_fields r),Obj.cls_mapFields _ _,oA _ _,r,by simp[hsz],k.fresh,u,?_,B,?_,?_⟩
   ·rw[MD _ _ (Ne.symm u)]
    refine ME _ ?_;rw[<- v];rfl
   ·first | (simp;done) | (rcases l with rfl | ⟨_,_,_,_,_,_,_,rfl⟩<;>simp)
   ·obtain⟨cx,h2,D⟩:=hcx
    exact⟨cx,by rw[Array.getElem?_setIfInBounds_ne nofun];exact h2,D⟩
 ·intro b o c d
  obtain⟨C,x⟩:=i.2.2 b o c;exact⟨C,keep b _ (j b o c d) x⟩
theorem Fu{cls:Value}{od:NK}(hfr:A.frames=some (env::outer))(hf:env.frame=some L)(x:iB cp base (env::outer) e cls od .none s.heap)
  (h:∀h',iB cp base (env::outer) e cls od (rawInt L) h'->s.heap.UpToSlots h'->Q () {s with heap:=h' }):wpAny M A (noteFrame (.ref e) env) Q E s:=by
 obtain⟨oe,vs,T,oT,u,n,w,v,p,h1,j,l,m,i,r,k⟩:=x.tr;subst w v;unfold noteFrame;simp only[hf];refine q04 (wpAny_field n p h1 ?_);rw[q07 (show(Value.ref T != Value.none)=true from by simp)];refine q04 (wpAny_field m i r ?_);rw[q06 (show ¬ ((Value.none==rawInt L)=true) from by simp[rawInt])];refine q04 (wpAny_setField m i (Array.getElem?_eq_some_iff.mp r).1 ?_);have d:∀b,b≠T->(s.heap.update T (Obj.mapFields (·.setIfInBounds 3 Value.none))).get? b=s.heap.get? b:=λb a=>MD _ _ (Ne.symm a);have g:∀b o,s.heap.get? b=some o->(∀vs,o.data≠.fields vs)->b≠T:=λb o a c q=>by rw[q,m]at a;injection a with a;subst a;exact c u i
 refine CZ hfr (x.ff.of_keeps λb o a c=>⟨o,(d b (g b o a c)).trans a,rfl⟩) hf ((d e (Ne.symm l)).trans n) (λb o a=>(d b λq=>by rw[q,j]at a;cases a).trans (x.st b o a)) x.new p (Array.getElem?_eq_some_iff.mp h1).1 k λh' y up=>h h' y λb o a c=>up b o ((d b (g b o a c)).trans a) c
theorem He{oe:Obj}(hfr:A.frames=some (env::outer))(hl:s.heap.FunFrames base (env::outer))(hf:env.frame=some L)(he:s.heap.get? e=some oe)(hkb:base.StaysIn s.heap)(hen:base.get? e=none)(hd:oe.data=.fields vs)(h1:vs[1]?=some .none)(hcx:∃cx,vs[2]?=some cx/\cp cx)
  (h:∀h',iB cp base (env::outer) e oe.cls oe.dict (rawInt L) h'->s.heap.UpToSlots h'->Q () {s with heap:=h' }):wpAny M A (noteFrame (.ref e) env) Q E s:=by
 unfold noteFrame;simp only[hf];refine q04 (wpAny_field he hd h1 ?_);rw[q06 nofun];exact CZ hfr hl hf he hkb hen hd (Array.getElem?_eq_some_iff.mp h1).1 hcx h
theorem iB.drop{cls fl:Value}{od:NK}(x:iB cp base (env::outer) e cls od fl h):iB cp base outer e cls od fl h:=⟨x.st,x.new,x.ff.2.2,x.tr⟩
theorem GO{cls:Value}{od:NK}(hfr:A.frames=some (env::outer))(hf:env.frame=some L)(x:iB cp base (env::outer) e cls od .none s.heap)
  (h:∀h',iB cp base outer e cls od .none h'->s.heap.UpToSlots h'->Q () {s with heap:=h' }):wpAny M A (leaving env (.ref e)) Q E s:=by
 unfold leaving;exact q04 (Fu hfr hf x λh1 b d=>oa b λh2 a c=>h h2 a.drop (d.trans c))
theorem Fl{oe:Obj}(hfr:A.frames=some (env::outer))(hl:s.heap.FunFrames base (env::outer))(hf:env.frame=some L)(he:s.heap.get? e=some oe)(hkb:base.StaysIn s.heap)(hen:base.get? e=none)(hd:oe.data=.fields vs)(h1:vs[1]?=some .none)(hcx:∃cx,vs[2]?=some cx/\cp cx)
  (h:∀h',iB cp base outer e oe.cls oe.dict .none h'->s.heap.UpToSlots h'->Q () {s with heap:=h' }):wpAny M A (leaving env (.ref e)) Q E s:=by
 unfold leaving;exact q04 (He hfr hl hf he hkb hen hd h1 hcx λh1 b d=>oa b λh2 a c=>h h2 a.drop (d.trans c))
end
end PySem
namespace L2
open PySem PySem.Spec PyProof.Rows
structure Fly0(P:NF)(w:NJ)(outer:List Env)(H:Hp)(s:Nz)(B:Heap)(H':Hp)(s':Nz):Prop where
 st:B.StaysIn s'.heap
 ff:s'.heap.FunFrames B outer
 un:Un (lG outer) [] H H' s.heap s'.heap
 hok:jA P w H' s'.heap
 cov:∀b o,H' b=some o->∃ob,B.get? b=some ob
 old:∀b o,s.heap.get? b=some o->b∉lG outer->∃o',B.get? b=some o'
 os:s'.os=s.os
 bare:AllBare s'.gens
structure Im(cp:Value->Prop)(P:NF)(w:NJ)(outer:List Env)(H:Hp)(s:Nz)(B:Heap)(H':Hp)(s':Nz)(ea:Addr)(cls:Value)(od:NK):Prop extends Fly0 P w outer H s B H' s' where
 fl:iB cp B outer ea cls od .none s'.heap
def Iv(cp:Value->Prop)(P:NF)(w:NJ):iI:=λouter H s E e s'=>∃ea cls od B H',e=.ref ea/\Im cp P w outer H s B H' s' ea cls od/\H' ea=none/\E cls od H'
abbrev j6(P:NF)(w:NJ):iI:=Iv (λv=>v=.none) P w
theorem dt{cp:Value->Prop}{X:Cx}:dl (Iv cp P w) X (λ_ _ _=>False):=λ_ _ _ _ _ _ _ h=>by
 obtain⟨_,_,_,_,_,_,_,_,f⟩:=h;exact f.elim
theorem rD{B:Heap}(ok:jA P w H h)(cov:∀b o,H b=some o->∃ob,B.get? b=some ob)(k:B.StaysIn h)(k':B.StaysIn h'):jA P w H h':=λa o e=>
 (ok a o e).stay (λb u hb q=>by
  have hb':∃ob,B.get? b=some ob:=by
   rcases hb with rfl | hb
   ·exact cov _ _ e
   ·exact cov _ _ hb
  obtain⟨ob,c⟩:=hb';have:=k b ob c;rw[q]at this;cases this;exact k' b _ c) (λ_ q=>q) λ_ _ q=>q
theorem bU.there(x:bU P w H h a o):∃ob,h.get? a=some ob:=by
 cases o with
 |lst xs=>obtain⟨_,_,_,_,e⟩:=x;exact⟨_,e⟩
 |tup xs=>obtain⟨_,_,_,ob,e,_⟩:=x;exact⟨_,e⟩
 |dK kvs=>obtain⟨_,_,_,_,o,_,_,e,_⟩:=x;exact⟨_,e⟩
 |dT kvs=>obtain⟨_,_,_,_,o,_,_,e,_⟩:=x;exact⟨_,e⟩
 |set S n=>obtain⟨o,_,_,_,e,_⟩:=x;exact⟨_,e⟩
 |ins C dx fs=>obtain⟨_,_,_,e,_⟩:=x;exact⟨_,e⟩
 |own y=>exact x
 |xd fs=>obtain⟨_,⟨_,_,_,e,_⟩,_⟩:=x;exact⟨_,e⟩
 |rng lo hi=>obtain⟨_,_,_,e⟩:=x;exact⟨_,e⟩
 |frz ob u=>obtain⟨e,_⟩:=x;exact⟨_,e⟩
 |tbl ps=>exact⟨_,show h.get? a=some _ from x⟩
 |met f y=>exact⟨_,show h.get? a=some _ from x⟩
 |ext φ=>obtain⟨_,e,_⟩:=x;exact e
section
variable {P:NF}{w:NJ}{K:Nv}{mg:ND}{base:Heap}{N:NG}{qual:Str}{scope:Scope}{f:Addr}{cd:Value}{A:NH}{outer:List Env}{s:Nz}{H:Hp}{E E1:XK}{CX:iI}
theorem Fly0.up{cp:Value->Prop}{pins:Nw}{σ:St}{H1:Hp}{s':Nz}{ea:Addr}{cls:Value}{od:NK}(I:Inv X pins σ H1 s1)(hex:X.ex=[])(hst:X.stack=X.env::X.outer)(hfr:X.env.frame=some X.env.locals)(hP:X.prog=P)(hw:X.w=w)
  (x:Fly0 P w X.stack H1 s1 B H' s') (fl2:iB cp B X.outer ea cls od .none h') (up:s'.heap.UpToSlots h') :
  Im cp P w X.outer X.H₀ X.s₀ B H' {s' with heap:=h' } ea cls od:=by
 have c:∀b,b∉X.ex:=λb=>by rw[hex];simp
 have j:∀b o,X.s₀.heap.get? b=some o->b∉X.fs->b∉lG X.stack:=λb o e a m=>by
  rw[hst]at m;unfold lG at m;rw[q0U,hfr]at m;rcases MQ.mp m with z | z
  ·exact q0Q (M4 e) (by rw[z];exact Nat.not_lt.mpr I.ok.above)
  ·exact a z
 have sub:∀b,b∈X.fs->b∈lG X.stack:=λb a=>by
  rw[hst];unfold lG;rw[q0U,hfr];exact MR _ a
 have y:∀b o,X.s₀.heap.get? b=some o->b∉X.fs->∃l,B.get? b=some l:=λb o e a=>by
  obtain⟨r,g⟩:=I.base.there b o e (c b);exact x.old b r g (j b o e a)
 have C:∀b∈X.fs,X.H₀ b=none:=I.ok.frf;have k:∀b o,X.s₀.heap.get? b=some o->X.H₀ b=none->b∈X.fs->∃k,h'.get? b=some {o with slots:=k}:=λb o e d a=>by
  obtain⟨sl1,g⟩:=I.base.slot b o e d a (c b);have v:=I.base.free b o e d (c b);obtain⟨sl2,i⟩:=x.un.slot b _ g v (sub b a) (by simp);obtain⟨_,o3,G,L⟩:=x.ff.mem (sub b a);rw[i]at G;cases G;obtain⟨p,R⟩:=up b _ i L;exact⟨p,R⟩
 refine⟨⟨fl2.st,fl2.ff,⟨λb o e d a _=>?_,λb o e d a _=>k b o e d a,λb o e d _=>?_,λb o e _=>?_,λb D q=>x.un.tups b D (I.base.tups b D q),λb o u q=>x.un.frzs b o u (I.base.frzs b o u q),λb J q=>?_⟩,rD x.hok x.cov x.st fl2.st,x.cov,y,x.os.trans I.os,x.bare⟩,fl2⟩
 ·have g:=I.base.keep b o e d a (c b)
  have v:=I.base.free b o e d (c b);have i:=x.un.keep b o g v (j b o e a) (by simp);obtain⟨l,n⟩:=y b o e a;have:=x.st b l n;rw[i]at this;cases this;exact fl2.st b _ n
 ·obtain⟨r,g⟩:=I.base.there b o e (c b)
  exact x.un.free b r g (I.base.free b o e d (c b)) (by simp)
 ·by_cases a:b∈X.fs
  ·obtain⟨z,O⟩:=k b o e (C b a) a
   exact⟨_,O⟩
  ·obtain⟨l,n⟩:=y b o e a
   exact⟨_,fl2.st b _ n⟩
 ·obtain⟨m1,g⟩:=I.base.tbls b J q
  obtain⟨M,i⟩:=x.un.tbls b _ g;exact⟨m1++M,by rw[i,Array.append_assoc]⟩
theorem mv{cp:Value->Prop}(hE:∀c d H',E1 c d H'->E c d H'):dl (Iv cp P w) (iD (Iv cp P w) P w K mg base N qual scope f cd A outer s H E) E1:=by
 intro pins σ H1 s1 e s' I x;obtain⟨k,g,i,B,H',rfl,a,j,q⟩:=x;refine GO I.ok.frames rfl a.fl λh' b up=>?_;exact⟨k,g,i,B,H',rfl,Fly0.up I rfl rfl rfl rfl rfl a.toFly0 b up,j,hE _ _ _ q⟩
def Cy(X:Cx)(E:XK):Prop:=∀(pins:Nw) (σ:St) (H:Hp) (s:Nz) (h':Heap) (e:Addr) (cls:Value) (vs:NA),Inv X pins σ H s->Heap.MadeExcOf s.heap h' e cls vs->E cls none H->X.xe (.ref e) {s with heap:=h' }
theorem wM(hE:∀c d H',E1 c d H'->E c d H'):Cy (iD (j6 P w) P w K mg base N qual scope f cd A outer s H E) E1:=by
 intro pins σ H1 s1 h1 e cls vs I x q;have l:∀i∈(iD (j6 P w) P w K mg base N qual scope f cd A outer s H E).stack,∀b,i.frame=some b->b∈lG (iD (j6 P w) P w K mg base N qual scope f cd A outer s H E).stack:=λi B b p=>List.mem_filterMap.mpr ⟨i,B,p⟩;obtain⟨t0,n,ht0,htt⟩:=x.there;have y:∀b,s1.heap.get? b=none->H1 b=none:=λb p=>by
  cases z:H1 b with
  |none=>rfl
  |some o=>
   obtain⟨u,g⟩:=(I.hok b o z).there;rw[p]at g;cases g
 have m:=PySem.W.funFrames_hide I.stack l;have a:Fly0 P w (iD (j6 P w) P w K mg base N qual scope f cd A outer s H E).stack H1 s1 (PySem.W.hideAll s1.heap (lG (iD (j6 P w) P w K mg base N qual scope f cd A outer s H E).stack)) H1 {s1 with heap:=h1}:=
  ⟨λb o e=>x.keeps b o (PySem.W.of_hideAll _ e),m.of_keeps λb o e _=>⟨o,x.keeps b o e,rfl⟩,Un.kept x.keeps,I.hok.kept x.keeps,λb o z=>by
   obtain⟨u,g⟩:=(I.hok b o z).there;exact⟨u,PySem.W.hideAll_get _ g λk=>by rw[I.stkFree b k]at z;cases z⟩,λb o e k=>⟨o,PySem.W.hideAll_get _ e k⟩,rfl,I.bare⟩
 have j:(PySem.W.hideAll s1.heap (lG (iD (j6 P w) P w K mg base N qual scope f cd A outer s H E).stack)).get? e=none:=by
  cases z:(PySem.W.hideAll s1.heap (lG (iD (j6 P w) P w K mg base N qual scope f cd A outer s H E).stack)).get? e with
  |none=>rfl
  |some o=>have:=PySem.W.of_hideAll _ z;rw[x.new]at this;cases this
 refine Fl (cp:=λv=>v=.none) (s:={s1 with heap:=h1}) I.ok.frames a.ff rfl n a.st j rfl rfl ⟨_,rfl,rfl⟩ λh' r up=>?_;exact⟨e,cls,none,_,H1,rfl,Fly0.up I rfl rfl rfl rfl rfl a r up,y e x.new,hE _ _ _ q⟩
end
structure tu(K:Nv)(C:Addr)(bmB:NA)(newId:String):Prop where
 exc:PySem.W.excIn K C bmB newId=true
set_option tactic.hygienic true in
theorem tu.obj{K:Nv}{bmB:NA}{newId:String}(c:tu K C bmB newId)(X:K.In h):∃bm N nm q bs hdct sn sub ab col dd k0 k1 k2 k3 k5 mN,
  h.get? C=some (excClassObj nm q C N bs bm hdct sn sub ab col dd k0 k1 k2 k3 k5 newId)/\h.Ns N mN/\mN "__init__"=none/\OwnTail h bmB bm/\∃dd' cd sl,K.lookup C=some ⟨.type "type",dd',.cls cd,sl⟩/\cd.mro=.ref C::bm:=by
 have q:=c.exc;unfold PySem.W.excIn at q;cases hl:K.lookup C with
 |none=>rw[hl]at q;cases q
 |some ob=>
  rw[hl]at q
  split at q
  ·rename_i dd cd sl e
   cases e
   split at q
   ·rename_i C' bm k0 k1 k2 k3 n k5 hm hs
    simp only[q0O,beq_iff_eq,Bool.not_eq_true']at q;obtain⟨⟨⟨⟨⟨rfl,rfl⟩,hdel⟩,ht⟩,hok⟩,hni⟩:=q;have ho:=X _ _ hl;have hsl:sl=#[k0,k1,k2,k3,some (.builtin n),k5]:=Array.toList_inj.mp hs;subst hsl;obtain⟨nm,bs,mro,ns,qn,hd,sn,sub,ab,col,del⟩:=cd;dsimp only at hm hdel hok hni ho;subst hm hdel;exact⟨bm,ns,nm,qn,bs,hd,sn,sub,ab,col,dd,k0,k1,k2,k3,k5,_,ho,.of_isNs (PySem.W.isNs_of_in X hok),PySem.W.nsMap_none_of_in X hok hni,PySem.W.tail_of_in X ht,dd,_,_,rfl,rfl⟩
   ·cases q
  ·cases q
section
variable {X:Cx}{x:Str}{np cpos pos:Pos}{e₀:Expr}{cN:NL}{t:TA}{C:Addr}{B Bn newId nid initId inN:String}{bm bmN:NA}{E:XK}
def uC(C:Addr)(E:XK)(t:TA):TS:=λ_ σ H=>t σ H λvs H1=>vs.length<=sizeLine/\E (.ref C) none H1
theorem Ck(c:tu X.K C bm newId)(Fn:ExcBaseFacts Bn newId inN bmN)(hBn:bm.contains (.type Bn)=true)(FB:ExcBaseFacts B nid initId bm)(hc:X.calm=true)(hg:Gl X x)(hm:X.mg x=some (.ref C))(hx:Cy X E)(ha:PA X (e₀::cN) t)
  (hd:autoParam ((x==("__debug__":Str))=false) zz2._auto_1)
  (he:autoParam (starEach (e₀::cN) X.env=(false,eval e₀ X.env)::starEach cN X.env) zz0._auto_1) (hpl:autoParam ((backTo cpos (starEach cN X.env)).any (·.1)=false) zz0._auto_1) :
  PS X (.Raise (some (.Call (.Name x np) (e₀::cN) [] cpos)) none pos) (uC C E t):=by
 intro a s σ H D I h;obtain⟨j,N,nm,q,bs,hdct,sn,sub,ab,col,dd,k0,k1,k2,k3,k5,mN,o,n,i,T,_⟩:=c.obj I.mod.kin;refine wpAny_Raise_call_subU (C:=C) (nm:=nm) (q:=q) (N:=N) (bs:=bs) (bm:=j) (hdct:=hdct) (sn:=sn) (sub:=sub) (ab:=ab) (col:=col) (dd:=dd) (k0:=k0) (k1:=k1) (k2:=k2) (k3:=k3) (k5:=k5)
  Fn hBn FB (mN:=mN) (T.hasType FB.hasBase) (I.ok.hd hc) (by rw[he];show(false||(backTo cpos (starEach cN X.env)).any (·.1))=false;rw[hpl];rfl) i (g8 I hg hm ⟨rfl,?_⟩ hd)
 rw[he];have b:=ha cpos a s σ H _ I h;rw[he]at b;exact Calls.evalArgs_plain (q0W b (λus k ⟨vs,H1,d,l,z,m⟩=>⟨rfl,by rw[<- l.length];exact z,d.bk _ _ o,n.keeps d.bk,T.keeps d.bk,λp e g=>hx a σ H1 k p e _ _ d g m⟩) λ_ _ y=>y)
end
abbrev TX:=St->Hp->VK->XK->Prop
def PX(CX:iI)(X:Cx)(e:Expr)(t:TX):Prop:=
 ∀(pins:Nw) (s:Nz) (σ:St) (H:Hp) (Q:VK) (E:XK) (Ex:Nu),Inv X pins σ H s->t σ H Q E->(∀H1 s1 ev s',Inv X pins σ H1 s1->CX X.stack H1 s1 E ev s'->Ex ev s') ->
  wpAny (model X.prog X.w) X.A (eval e X.env) (EP X pins σ Q) Ex s
section
variable {X:Cx}{CX:iI}{k:Nat}{ps:NG}{sp:Sp}{x:Str}{p pos:Pos}{e:Expr}{es:NL}{t:TA}
def xH(sp:Sp)(t:TA):TX:=λσ H Q E=>t σ H λvs H1=>sp vs H1 Q E
theorem Ha(c:df X.prog X.w X.K X.mg X.base CX k x ps sp)(hr:cO k X.A)(hg:Gl X x)(ha:PA X.nox (e::es) t)(hdb:autoParam ((x==("__debug__":Str))=false) zz2._auto_1)
  (hst:autoParam (starEach (e::es) X.env=(false,eval e X.env)::starEach es X.env) zz0._auto_1) (hpl:autoParam ((backTo pos (starEach es X.env)).any (·.1)=false) zz0._auto_1):PX CX X (.Call (.Name x p) (e::es) [] pos) (xH sp t):=by
 intro a s σ H Q E Ex I h hEx;obtain⟨f,fd,F,n,v,w⟩:=c.ex;refine wpAny_Call_Name_kw (g8 I hg n ?_ hdb);refine PySem.W.callWith_K (h₀:=X.base) I.ok.mod.kin v (q0W (ha pos a s σ H _ (I.wish _) h) (λus g ⟨vs,H1,j,r,q⟩=>⟨j.kIn,?_⟩) λ_ _ f=>f.elim) hst hpl;have i:Inv X a σ H1 g:=j.unwish;have o:(us++[]).length=ps.length:=by rw[Na,<- r.length];exact F.len _ _ _ _ q
 have d:=w g us i.kIn o;rw[Na]at d;refine wpAny_call (codeAny_mono (F.run X.A X.stack g H1 ⟨us,[]⟩ us vs Q E hr i.env0 d r q) λm l b=>?_);cases m with
 |error ev=>exact hEx H1 g ev l i b
 |ok fl=>
  cases fl with
  |ret u=>exact i.after b
  |next=>exact False.elim b
  |brk=>exact False.elim b
  |cont=>exact False.elim b
end
theorem Fly0.un2{outer:List Env}(x:Fly0 P w outer H s B H' s')(k6:B.StaysIn h6)(up:s'.heap.UpToSlots h6)(fr0:∀b∈lG outer,H b=none):Un (lG outer) [] H H' s.heap h6:=by
 have d:∀b o,s.heap.get? b=some o->H b=none->b∈lG outer->∃d,h6.get? b=some {o with slots:=d}:=λb o e c a=>by
  obtain⟨sl2,l⟩:=x.un.slot b _ e c a (by simp);obtain⟨_,o3,k,m⟩:=x.ff.mem a;rw[l]at k;cases k;obtain⟨i,p⟩:=up b _ l m;exact⟨i,p⟩
 refine⟨λb o e c a _=>?_,λb o e c a _=>d b o e c a,λb o e c _=>x.un.free b o e c (by simp),λb o e _=>?_,x.un.tups,x.un.frzs,x.un.tbls⟩
 ·obtain⟨j,g⟩:=x.old b o e a
  have:=x.st b j g;rw[x.un.keep b o e c a (by simp)]at this;cases this;exact k6 b _ g
 ·by_cases a:b∈lG outer
  ·obtain⟨z,n⟩:=d b o e (fr0 b a) a
   exact⟨_,n⟩
  ·obtain⟨j,g⟩:=x.old b o e a
   exact⟨_,k6 b _ g⟩
def FC(ea:Addr)(cls:Value)(od:NK)(h:Heap):Prop:=∃o vs,h.get? ea=some o/\o.cls=cls/\o.dict=od/\o.data=.fields vs
abbrev xo(ea:Addr)(cls:Value)(od:NK):HO:=.ext (FC ea cls od)
theorem Inv.caught{cp:Value->Prop}{pins:Nw}{σ:St}{s':Nz}{ea:Addr}{cls:Value}{od:NK}(I:Inv X pins σ H s)(x:Fly0 X.prog X.w X.stack H s B H' s')(fl:iB cp B X.stack ea cls od .none h6)(up:s'.heap.UpToSlots h6)(hn:H' ea=none) :
  Inv X pins σ (aD H' ea (xo ea cls od)) {s' with heap:=h6}:=by
 obtain⟨v,vs,p,S,m,C⟩:=fl.there;have i:B.get? ea=none:=fl.new;have l:ea∉lG X.stack:=λR=>by
  obtain⟨_,o,w,M⟩:=fl.ff.mem R;rw[p]at w;cases w;exact M _ C
 have g:s.heap.get? ea=none:=by
  cases z:s.heap.get? ea with
  |none=>rfl
  |some o=>
   obtain⟨o',G⟩:=x.old ea o z l;rw[i]at G;cases G
 have u:=x.un2 fl.st up I.stkFree;have j:=rD x.hok x.cov x.st fl.st;have d:∀b o,H' b=some o->b≠ea:=λb o e z=>by rw[z,hn]at e;cases e
 refine I.call' (ch:=[]) x.os ⟨u.keep,u.slot,λb o e n O=>?_,u.there,λb r q=>?_,λb o y q=>?_,λb L q=>?_⟩ (λb o e=>?_) x.bare (λb z=>q0Q z (by simp))
 ·have nb:b≠ea:=λz=>by rw[z,g]at e;cases e
  rw[aq nb];exact u.free b o e n O
 ·have a:=u.tups b r q
  rw[aq (d _ _ a)];exact a
 ·have a:=u.frzs b o y q
  rw[aq (d _ _ a)];exact a
 ·obtain⟨more,a⟩:=u.tbls b L q
  exact⟨more,by rw[aq (d _ _ a)];exact a⟩
 ·by_cases D:b=ea
  ·subst D
   rw[ae]at e;cases e;exact⟨⟨v,vs,p,S,m,C⟩,⟨v,p⟩,λh1 h2 ⟨o,J,Z,Y,U,T⟩ k=>⟨o,J,k o Z,Y,U,T⟩⟩
  ·rw[aq D]at e
   exact(j b o e).stay (λ_ _ _ q=>q) (λc q=>by rw[aq (d _ _ q)];exact q) λc r q=>by rw[aq (d _ _ q)];exact q
end L2
namespace PySem
open Sem (wp)
section
variable {M:Model}{A:NH}{E:Nu}
variable {nm q nm' q':Str}{C N D N':Addr}{bs bm bs' bm':NA}{hdct hdct':Bool}{sn sn':NG}{sub sub':NA}{ab ab':Bool}{col col':Option Bool}{dd dd':NK}{k0 k1 k2 k3 k5 k0' k1' k2' k3' k5':Option Value}{newId newId':String}
theorem lW{h:Heap}{g:Array GenState}{d:Drawn}{t:Nat}{os:OsState}{e:Addr}{oe:Obj}{Q:Bool->Shared->Prop}
  (hC:h.get? C=some (excClassObj nm q C N bs bm hdct sn sub ab col dd k0 k1 k2 k3 k5 newId)) (hD:h.get? D=some (excClassObj nm' q' D N' bs' bm' hdct' sn' sub' ab' col' dd' k0' k1' k2' k3' k5' newId')) (he:h.get? e=some oe) (hcls:oe.cls=.ref C)
  (hbase:bm'.contains (.type "BaseException")=true) (hsub:(Value.ref C::bm).contains (.ref D)=true)
  (hq:Q true ⟨h,g,d,t,os⟩):wpAny M A (excMatches (.ref e) (.ref D)) Q E ⟨h,g,d,t,os⟩:=by
 have a:(Value.ref D::bm').contains (.type "BaseException")=true:=by rw[List.contains_cons,hbase,Bool.or_true]
 have f:=tc_notTuple;unfold excMatches
 repeat (first | (with_reducible refine wpAny_loadPart_at he ?_;rw[hcls]) | with_reducible refine wpAny_loadPart_at hD ?_ | (with_reducible refine wpAny_isSubtype_exc hD ?_;rw[a]) | (with_reducible refine wpAny_isSubtype_exc hC ?_;rw[hsub]) | wp_step)
 exact hq
end
end PySem
namespace L2
open PySem PySem.Spec PyProof.Rows
section
variable {X:Cx}{pins:Nw}{σ:St}{H:Hp}{s:Nz}
theorem ji{i:Nat}{x:Str}{v:V}{pos:Pos}{Q:Unit->Shared->Prop}(I:Inv X pins σ H s)(hN:X.N.Nodup)(hi:X.N[i]?=some x)(hk:X.env.kindOf x=some .local)
  (h:∀s',Inv X pins (σ.set i none) H s'->Q () s'):wpAny M A (do bindName X.env x .none;unbindBehindTheSuite X.env x pos) Q E s:=by
 have g:X.env.scope.names.lookup x=some .local:=hk;refine q04 (wpAny_bindName (li (v:=.non) I hN hi (.inl g) rfl (λs1 a=>?_) (.inr g)));unfold unbindBehindTheSuite;have B:i<σ.length:=by rw[I.len];exact(Mw.mp hi).1
 obtain⟨m,S,T⟩:=id a.loc;obtain⟨u,ru,lk⟩:=T i x .non hi (Nc B) (.inl g);have hm:m x=some u:=by
  rcases lk with⟨_,e⟩ | ⟨z,_⟩
  ·exact e
  ·rw[hk]at z;rcases z with z | z<;>cases z
 have C:(X.env.scope.kind==.class||(X.env.scope.kind==.module&&X.env.locals != X.env.globals))=false:=by rw[I.ok.kind];rfl
 refine wpAny_onRaise (wpAny_unbindName_local hk S hm C λh' R J l=>?_);have cne:=a.cne;obtain⟨oL,_,_,hoL,_⟩:=id S;refine h _ ⟨a.ok,a.os,a.bare,⟨λb o e n L w=>?_,λb o e n L w=>?_,a.base.free,λb o e w=>?_,a.base.tups,a.base.frzs,a.base.tbls⟩,⟨_,J,λj y U r G e3=>?_⟩,λy c e=>?_,a.free,a.freeC,λp hp=>?_,λb ob e=>?_,by rw[List.length_set];exact I.len⟩
 ·exact(l.2 b (MU (MT (M4 e) a.ok.above))).trans (a.base.keep b o e n L w)
 ·obtain⟨Y,r⟩:=a.base.slot b o e n L w
  exact⟨Y,(l.2 b (MU (MT (M4 e) a.ok.above))).trans r⟩
 ·obtain⟨o',r⟩:=a.base.there b o e w
  exact⟨o',(l.2 b (MU (MT (M4 e) a.ok.above))).trans r⟩
 ·by_cases D:j=i
  ·subst D
   rw[Nc B]at G;cases G
  ·rw[List.getElem?_set_ne (Ne.symm D)]at G
   obtain⟨R,Z,q⟩:=T j y U r (by rw[List.getElem?_set_ne (Ne.symm D)];exact G) e3;refine⟨R,Z,?_⟩;rcases q with⟨k,e⟩ | ⟨k,c,e,z⟩
   ·refine .inl ⟨k,?_⟩
    have:y≠x:=λe=>D (qi hN r (e▸hi));simp[this,e]
   ·exact .inr ⟨k,c,e,z.sameBut l (cne y c e)⟩
 ·obtain⟨O,z⟩:=a.cell y c e
  exact⟨O,z.sameBut l (cne y c e)⟩
 ·obtain⟨e,n,ne,nf,d⟩:=a.pin p hp
  exact⟨(l.2 p.1 ne).trans e,n,ne,nf,d⟩
 ·refine(a.hok b ob e).stay (λc O hc q=>(l.2 c ?_).trans q) (λ_ q=>q) λ_ _ q=>q
  rintro rfl;rcases hc with rfl | hc
  ·rw[a.free]at e;cases e
  ·rw[a.free]at hc;cases hc
abbrev Cx.held(X:Cx)(ea:Addr):Cx:={X with A:=X.A.mark (some (.ref ea)),calm:=false,xe:=λ_ _=>False}
theorem Inv.held(I:Inv X pins σ H s)(ea:Addr):Inv (X.held ea) pins σ H s:=
 ⟨⟨I.ok.mod,I.ok.kind,I.ok.glob,I.ok.blt,I.ok.above,I.ok.inj,I.ok.has,I.ok.cab,(λz=>by cases z),I.ok.frames,I.ok.stk,I.ok.exf,I.ok.bs,I.ok.bsz,I.ok.noex,I.ok.exfs,I.ok.funs,I.ok.frf⟩,I.os,I.bare,I.base,I.loc,I.cell,I.free,I.freeC,I.pin,I.hok,I.len⟩
theorem Inv.unheld{ea:Addr}(hd:X.calm=true->X.A.handled=none)(I:Inv (X.held ea) pins σ H s):Inv X pins σ H s:=
 ⟨⟨I.ok.mod,I.ok.kind,I.ok.glob,I.ok.blt,I.ok.above,I.ok.inj,I.ok.has,I.ok.cab,hd,I.ok.frames,I.ok.stk,I.ok.exf,I.ok.bs,I.ok.bsz,I.ok.noex,I.ok.exfs,I.ok.funs,I.ok.frf⟩,I.os,I.bare,I.base,I.loc,I.cell,I.free,I.freeC,I.pin,I.hok,I.len⟩
end
def BW(K:Nv)(C D:Addr):Prop:=∃dd cd sl,K.lookup C=some ⟨.type "type",dd,.cls cd,sl⟩/\cd.mro.contains (.ref D)=true
section
variable {X:Cx}{pins:Nw}{σ:St}{H:Hp}{s:Nz}
theorem Inv.moved{ch:NC}{h':Heap}{tk:Nat}(I:Inv X pins σ H s)(hf:∀b∈ch,nQ X pins H b)(k:∀b o,b∉ch->s.heap.get? b=some o->h'.get? b=some o):Inv X pins σ H {s with heap:=h',toks:=tk}:=by
 have a:∀b o,H b=some o->b∉ch:=λb o e z=>by rw[(hf b z).1]at e;cases e
 refine I.call' (s':={s with heap:=h',toks:=tk}) (ch:=ch) rfl ⟨λb o e _ _ hc=>k b o hc e,λb o e _ _ hc=>⟨o.slots,k b o hc e⟩,λb o e n hc=>n,λb o e hc=>⟨o,k b o hc e⟩,λb xs q=>q,λb o y q=>q,λb qs q=>⟨#[],by rw[q];simp⟩⟩
  (λb o e=>(I.hok b o e).stay (λc u hc q=>k c u (by
   rcases hc with rfl | hc
   ·exact a _ _ e
   ·exact a _ _ hc) q) (λ_ q=>q) λ_ _ q=>q) I.bare λb d=>?_
 obtain⟨f0,l,f2,j,i,g⟩:=hf b d;exact⟨j,l,i,g⟩
theorem Inv.movedT{ch:NC}{h':Heap}{tk:Nat}{T:Addr}{ob:HO}(I:Inv X pins σ H s)(hf:∀b∈ch,nQ X pins H b)(k:∀b o,b∉ch->s.heap.get? b=some o->h'.get? b=some o)(hT:s.heap.objs.size<=T)(new:bU X.prog X.w (aD H T ob) h' T ob) :
  Inv X pins σ (aD H T ob) {s with heap:=h',toks:=tk}:=by
 have g:∀b o,H b=some o->b∉ch:=λb o e z=>by rw[(hf b z).1]at e;cases e
 have a:H T=none:=I.hok.fresh hT;have j:∀b o,s.heap.get? b=some o->b≠T:=λb o e z=>by rw[z]at e;exact q0Q (M4 e) (Nat.not_lt.mpr hT)
 refine I.call' (s':={s with heap:=h',toks:=tk}) (ch:=ch) rfl ⟨λb o e _ _ hc=>k b o hc e,λb o e _ _ hc=>⟨o.slots,k b o hc e⟩,λb o e n hc=>by rw[aq (j b o e)];exact n,λb o e hc=>⟨o,k b o hc e⟩,λb i q=>by rw[aq (aA q a)];exact q,λb o y q=>by rw[aq (aA q a)];exact q,λb qs q=>⟨#[],by rw[aq (aA q a),q];simp⟩⟩
  (λb o e=>?_) I.bare λb d=>?_
 ·by_cases d:b=T
  ·subst d
   rw[ae]at e;cases e;exact new
  ·rw[aq d]at e
   exact(I.hok b o e).stay (λc u hc q=>k c u (by
    rcases hc with rfl | hc
    ·exact g _ _ e
    ·exact g _ _ hc) q) (λc q=>by rw[aq (aA q a)];exact q) λc i q=>by rw[aq (aA q a)];exact q
 ·obtain⟨f0,r,f2,p,m,l⟩:=hf b d
  exact⟨p,r,m,l⟩
end
def II(K:Nv)(a b:Addr):It:=
 ⟨λi H=>∃xs ys x y,aI K H a xs/\aI K H b ys/\xs[i]?=some x/\ys[i]?=some y,λi H v H'=>∃T x y,v=.ref T/\H T=none/\H'=aD H T (.tup [x,y])/\(∀xs,aI K H a xs->xs[i]?=some x)/\∀ys,aI K H b ys->ys[i]?=some y,
  λi H=>∃xs ys,aI K H a xs/\aI K H b ys/\(xs.length<=i\/ys.length<=i)⟩
theorem Di{K:Nv}{elts:NL}{tp:Pos}{TI TO:Addr}(D:ZipApart z TI TO i1 i2 l1 l2) :
  uJ P w K (.Tuple elts x1 tp) (II K l1 l2) [z,TI,TO,i1,i2] z (λi h=>IsZip h z TI TO .none/\IsPair h TI (.ref i1) (.ref i2)/\(∃a b,IsPair h TO a b)/\h.IsListIter i1 l1 i/\h.IsListIter i2 l2 i) where
 mem:=by simp
 obj:=λi h m b J=>by
  obtain⟨n,d,⟨a,c,g⟩,⟨o1,e1,c1,d1⟩,⟨o2,e2,c2,d2⟩⟩:=m;simp only[MQ,List.not_mem_nil,or_false]at J;rcases J with rfl | rfl | rfl | rfl | rfl
  ·exact⟨_,n,λv q=>by cases q⟩
  ·exact⟨_,d,λv q=>by cases q⟩
  ·exact⟨_,g,λv q=>by cases q⟩
  ·exact⟨_,e1,λv q=>by rw[d1]at q;cases q⟩
  ·exact⟨_,e2,λv q=>by rw[d2]at q;cases q⟩
 keep:=λi h h' m l=>by
  obtain⟨n,d,⟨a,b,g⟩,h1,h2⟩:=m;exact⟨l z (by simp) _ n,l TI (by simp) _ d,⟨a,b,l TO (by simp) _ g⟩,h1.at λo e=>l i1 (by simp) o e,h2.at λo e=>l i2 (by simp) o e⟩
 item:=by
  intro X hP hw hK k i L s σ H E I hf m hg;subst hP hw hK;obtain⟨xs,ys,x,y,r,p,hx,hy⟩:=hg;obtain⟨O,B,p1,a7⟩:=I.list r;obtain⟨M,u,Z,a0⟩:=I.list p;obtain⟨T,b0,Y⟩:=B.get hx;obtain⟨S,a9,U⟩:=u.get hy;obtain⟨n,d,⟨a,b,g⟩,h1,h2⟩:=m;refine wpAny_pyNext_zip_item D n d g h1 h2 p1.isList Z.isList (x:=T) (y:=S) (by simpa using b0) (by simpa using a9) λh' a1 a2 a3 a4 a5 a6 l=>?_;refine⟨_,rfl,wpAny_letOwnedTupleGo_zip a1 λR a8 j=>?_⟩;have G:H s.heap.objs.size=none:=I.hok.fresh (MY _);have lt:∀{c o},s.heap.get? c=some o->s.heap.objs.size≠c:=λe=>Nat.ne_of_gt (M4 e);have kk:∀c o,c∉[z,TI,TO,i1,i2]->s.heap.get? c=some o->R.get? c=some o:=λc o k e=>
   j.extBut _ _ (λq=>k (by simp[q])) (l c o (λq=>k (by simp[q])) (λq=>k (by simp[q])) (λq=>k (by simp[q])) (λq=>k (by simp[q])) e)
  have hT:R.get? s.heap.objs.size=some {cls:=.type "tuple",data:=.seq #[T,S]}:=j.extBut _ _ (lt n) a5;refine⟨.ref s.heap.objs.size,aD H s.heap.objs.size (.tup [x,y]),I.movedT (tk:=s.toks) hf kk (MY _) ⟨show 2<=sizeLine from by decide +kernel,[T,S],.cons Y (.cons U .nil),_,hT,rfl,_,rfl⟩,rfl,
   ⟨_,x,y,rfl,G,rfl,λzs C=>by rw[I.list_inj C r];exact hx,λzs C=>by rw[I.list_inj C p];exact hy⟩,
   ⟨a8,j.extBut _ _ D.TIz (l _ _ D.TIz D.TITO D.TIi1 D.TIi2 d),⟨_,_,j.extBut _ _ D.TOz a2⟩,a3.extBut j.extBut D.i1z,a4.extBut j.extBut D.i2z⟩,λb J=>?_⟩
  have b1:b≠s.heap.objs.size:=by
   obtain⟨o1,e1,_⟩:=h1;obtain⟨o2,e2,_⟩:=h2;simp only[MQ,List.not_mem_nil,or_false]at J;rcases J with rfl | rfl | rfl | rfl | rfl
   ·exact(lt n).symm
   ·exact(lt d).symm
   ·exact(lt g).symm
   ·exact(lt e1).symm
   ·exact(lt e2).symm
  rw[aq b1];exact(hf b J).1
 done:=by
  intro X hP hw hK k i L s σ H E I hf m hg;subst hP hw hK;obtain⟨xs,ys,r,p,hx⟩:=hg;obtain⟨O,B,p1,a7⟩:=I.list r;obtain⟨M,u,Z,a0⟩:=I.list p;obtain⟨n,d,⟨a,b,g⟩,h1,h2⟩:=m;have l1':=B.length;have l2':=u.length;refine wpAny_pyNext_zip_end (I.ok.hd k) D n d g h1 h2 p1.isList Z.isList ?_ λh' l=>⟨rfl,I.moved (tk:=s.toks) hf λc o k e=>l c o (λq=>k (by simp[q])) (λq=>k (by simp[q])) (λq=>k (by simp[q])) (λq=>k (by simp[q])) e⟩;rcases hx with hx | hx
  ·exact .inl (by simp;omega)
  ·exact .inr (by simp;omega)
 self:=λ_ _ _ _ _ m h=>wpAny_pyIter_zip m.1 h
theorem Bg(n l1 l2:Nat)(h1:l1<n)(h2:l2<n):ZipApart (n+4) (n+2) (n+3) n (n+1) l1 l2:=by
 constructor<;>exact λe=>q0Q (show(_:Nat)=_ from e) ⋯
section
variable {X:Cx}{elts:NL}{x1:Nat}{tp:Pos}
def G8(K:Nv)(ta:TA):TI:=λσ H R=>ta σ H λvs H1=>∃a b xs ys,vs=[.ref a,.ref b]/\aI K H1 a xs/\aI K H1 b ys/\R (II K a b) H1
theorem Hj{a b:Expr}{ta:TA}{p pos:Pos}(hg:Gl X "zip")(hm:X.mg "zip"=none)(ha:PA X [a,b] ta)(hs:autoParam (starEach [a,b] X.env=[(false,eval a X.env),(false,eval b X.env)]) zz0._auto_1)(hs2:autoParam (starEach [b] X.env=[(false,eval b X.env)]) zz0._auto_1):PI X (.Tuple elts x1 tp) (.Call (.Name "zip" p) [a,b] [] pos) (G8 X.K ta):=by
 intro d s σ H R I h;refine Call_ (eO I hg hm boot_zip (PyProof.Rows.callWith_type1 (b6 (ha pos d s σ H _ I h) λus c ⟨vs,H1,i,G,J⟩=>?_) (by rw[hs,hs2]) (by rw[hs2];rfl)));obtain⟨l1,l2,xs,ys,rfl,m,l,q⟩:=J;obtain⟨u,v,rfl,D,C⟩:=G.two;cases D;cases C;obtain⟨its1,rv1,r,_⟩:=i.list m;obtain⟨its2,rv2,o,_⟩:=i.list l;refine call_zip_2 r.isList o.isList λM n B z y x z6 L=>?_;have k:l1<c.heap.objs.size:=by obtain⟨_,e,_⟩:=r.isList;exact M4 e
 have j:l2<c.heap.objs.size:=by obtain⟨_,e,_⟩:=o.isList;exact M4 e
 have O:Inv X d σ H1 {c with heap:=M }:=i.kept (t':=c.toks) L;refine wpAny_pyIter_zip n ?_;refine⟨c.heap.objs.size+4,[c.heap.objs.size+4,c.heap.objs.size+2,c.heap.objs.size+3,c.heap.objs.size,c.heap.objs.size+1],_,_,H1,rfl,O,Di (l1:=l1) (l2:=l2) ?_,⟨n,B,⟨_,_,z⟩,y,x⟩,λb w=>?_,q⟩
 ·exact Bg _ _ _ k j
 ·have g:c.heap.objs.size<=b:=by
   simp only[MQ,List.not_mem_nil,or_false]at w;rcases w with e | e | e | e | e<;>(rw[e];first | exact MY _ | exact Nat.le_add_right _ _)
  exact i.fpOk g (i.hok.fresh g)
end
end L2
namespace PySem.W
open PySem PySem.Spec PySem.Calls PyProof.Rows
section
variable {prog:NF}{w:NJ}{A:NH}{E:Nu}{s:Nz}{K:Frag}{x D:Addr}{ox:Obj}{odo:Option Obj}{name:Str}
theorem Er(self:Value):bindSpecial (.builtin "BaseException.__getattribute__") self=pure (.builtin "BaseException.__getattribute__",[self]):=F.excAttr_ValueError.ga.bind self
theorem CF{tk:Tok}{Q:Unit->Shared->Prop}(X:K.In s.heap)(I:InstAt s.heap x ox D odo)(hb:mroIn K D (.type "BaseException")=some true)(h:Q () s) :
  wpAny (model prog w) A (checkBuiltinCall "BaseException.__getattribute__" ⟨[.ref x,.str name tk],[]⟩) Q E s:=by
 have L0:=I.type (M:=model prog w);have L1:=looks_mroIn (M:=model prog w) X hb;have e:Looks (model prog w) s.heap (isInstance (.ref x) (.type "BaseException")) true:=L0.andThen L1;have d:builtinKind "BaseException.__getattribute__"=some .slot:=by decide +kernel
 have c:splitId "BaseException.__getattribute__"=some ("BaseException","__getattribute__"):=by decide +kernel
 have b:=F.args_bexc_ga (.ref x) (.str name tk);simp only[checkBuiltinCall,d,c];refine q04 (e.at ?_);simp only[Bool.not_true,q0Z,if_false];cases a:Manifest.signature? "BaseException.__getattribute__" with
 |none=>exact q05 h
 |some sig=>
  simp only[argsOk,a]at b;show wpAny _ _ (Bind.checkArgs _ sig _) Q E s;rw[b];exact q05 h
theorem Ai{Q:Option Value->Shared->Prop}(X:K.In s.heap)(I:InstAt s.heap x ox D odo)(hga:findIn K (.ref D) "__getattribute__"=some (some (.builtin "BaseException.__getattribute__")))(hgh:findIn K (.ref D) "__getattr__"=some none)
  (hb:mroIn K D (.type "BaseException")=some true) (hf:findObj K D odo name=some (.bind g a))
  (hc:∀(A':NH) (R:Result->Shared->Prop),R (.ok (.ret v)) {s with toks:=s.toks+1}->codeAny (model prog w) A' (.call g ⟨[a,.ref x,.ref D],[]⟩) R {s with toks:=s.toks+1}) (hv:handedIn v=true) (h:Q (some v) {s with toks:=s.toks+1}) :
  wpAny (model prog w) A (getAttr? (.ref x) name) Q E s:=by
 obtain⟨hh,gg,d,t,os⟩:=s;have L0:=I.type (M:=model prog w);have L1:=looks_findIn (M:=model prog w) X hga;have e:=looks_findIn (M:=model prog w) X hgh;have c:=looks_find (M:=model prog w) X I hf;unfold getAttr? getAttrBy? getAttrBy;refine q04 (wpAny_mkText (q04 (wpAny_attempt (q0X (q04 (L0.at (q04 (L1.at ?_))))))));show wpAny _ _ (getAttrByItsOwn _ _ _ _ _ _) _ _ _;unfold getAttrByItsOwn hookBefore;refine q04 (e.at ?_);refine q04 (wpAny_attempt (q0X ?_));unfold callGetattribute boundAndCalled;show wpAny _ _ (bindSpecial _ _ >>= _) _ _ _;rw[Er];refine q04 (q05 ?_);refine wpAny_call (codeAny_call_builtin F.excAttr_ValueError.ga.plain F.entry_bexc_ga (CF X I hb ?_));have b:slotArgs "__getattribute__" 1 ⟨[.ref x,.str name t],[]⟩=pure (.ref x,[.str name t]):=rfl;unfold Builtin.«object.__getattribute__»;show wpAny _ _ (slotArgs "__getattribute__" 1 ⟨[.ref x,.str name t],[]⟩ >>= _) _ _ _;rw[b];refine q04 (q05 ?_);refine q04 (q05 (q04 (L0.at (q04 (c.at ?_)))));show wpAny _ _ (holding [a] (call g [a,.ref x,.ref D]) >>= ret) _ _ _;refine q04 (q0X (wpAny_call (hc _ _ (q05 ?_))));exact handed_on hv (q05 h)
theorem AZ{Q:Option Value->Shared->Prop}(X:K.In s.heap)(I:InstAt s.heap x ox D odo)(hga:findIn K (.ref D) "__getattribute__"=some (some (.builtin "BaseException.__getattribute__")))(hgh:findIn K (.ref D) "__getattr__"=some none)
  (hb:mroIn K D (.type "BaseException")=some true) (hm:mroIn K D (.type "object")=some true) (hf:findObj K D odo "__class__"=some (.bind (.builtin "getset_descriptor.__get__") (.builtin "object.__class__"))) (h:Q (some (.ref D)) {s with toks:=s.toks+1}) :
  wpAny (model prog w) A (getAttr? (.ref x) "__class__") Q E s:=
 Ai (v:=.ref D) X I hga hgh hb hf (λA' R hR=>class_get (s:={s with toks:=s.toks+1}) (ox:=ox) (od:=odo) X I hm hR) rfl h
structure XTy(K:Frag)(D:Addr):Prop where
 ga:findIn K (.ref D) "__getattribute__"=some (some (.builtin "BaseException.__getattribute__"))
 gh:findIn K (.ref D) "__getattr__"=some none
 mb:mroIn K D (.type "BaseException")=some true
 mo:mroIn K D (.type "object")=some true
 ha:findIn K (.ref D) "__class__"=some (some (.builtin "object.__class__"))
 hn:specialIn K (.builtin "object.__class__") "__get__"=some (some (.builtin "getset_descriptor.__get__"))
 tk:takesIn K (.builtin "object.__class__")=some true
 cl:∃dd cd sl,K.lookup D=some ⟨.type "type",dd,.cls cd,sl⟩
theorem XTy.find(c:XTy K D):findObj K D odo "__class__"=some (.bind (.builtin "getset_descriptor.__get__") (.builtin "object.__class__")):=by
 obtain⟨dd,d,sl,a⟩:=c.cl;have b:clsIn K D=some d:=by unfold clsIn;rw[a]
 unfold findObj;rw[b,Option.bind_some,c.ha,Option.bind_some];simp[c.hn,c.tk]
theorem kitx_exc(c:XTy K D):KitX K (.ref x) (.ref D) (λh=>∃ox,InstAt h x ox D odo) where
 ty:=λ_ _ _ ⟨_,I⟩=>I.type
 it:=λ_ _ X _=>by
  obtain⟨dd,cd,sl,hl⟩:=c.cl;intro A' Q' E' s' k q;unfold isType loadHead;exact q04 (wpAny_loadPart (k _ _ (X _ _ hl)) (q05 q))
 ne:=λh tp dd its n sl X htp=>by
  obtain⟨dd,cd,sl,hl⟩:=c.cl;refine Bool.eq_false_iff.mpr λq=>?_;have e:D=tp:=Value.ref.inj (beq_iff_eq.mp q);subst e;have z:=q0R (λo=>o.map Obj.cls) ((X _ _ hl).symm.trans htp);simp at z
 ca:=λX ⟨_,I⟩ k=>AZ X I c.ga c.gh c.mb c.mo c.find k
end
end PySem.W
namespace L2
open PySem PySem.Spec PyProof.Rows
section
variable {X:Cx}
theorem Cp{h:Heap}(e:FC a (.ref C) none h):∃ox,PySem.W.InstAt h a ox C none:=by
 obtain⟨o,vs,g,d,c,b⟩:=e;exact⟨o,g,d,by unfold PySem.W.notCls;rw[b],by rw[c];trivial⟩
theorem wj:∀{cs:List V} {us:NA},bj cs us->(∀c∈cs,kl c=true)->us=cs.map yi
 | [],_,.nil,_=>rfl
 |c::cs,_,.cons r t,h=>by rw[M8,u6 r (h c (by simp)),wj t λz hz=>h z (by simp[hz])]
end
structure XR(K:Nv)(C:Addr):Prop where
 ex:∃(bm bmN:NA) (newId Bn inN B nid initId:String),tu K C bm newId/\ExcBaseFacts Bn newId inN bmN/\bm.contains (.type Bn)=true/\ExcBaseFacts B nid initId bm
theorem sS{X:Cx}{np cpos pos:Pos}{e₀:Expr}{cN:NL}{t:TA}(c:XR X.K C)(hc:X.calm=true)(hg:Gl X x)(hm:X.mg x=some (.ref C))(hx:Cy X E)(ha:PA X (e₀::cN) t)
  (hd:autoParam ((x==("__debug__":Str))=false) zz2._auto_1)
  (he:autoParam (starEach (e₀::cN) X.env=(false,eval e₀ X.env)::starEach cN X.env) zz0._auto_1) (hpl:autoParam ((backTo cpos (starEach cN X.env)).any (·.1)=false) zz0._auto_1) :
  PS X (.Raise (some (.Call (.Name x np) (e₀::cN) [] cpos)) none pos) (uC C E t):=by
 obtain⟨bm,bmN,newId,Bn,inN,B,nid,initId,e,d,b,a⟩:=c.ex;exact Ck e d b a hc hg hm hx ha hd he hpl
section
variable {P:NF}{w:NJ}{K:Nv}{mg:ND}{base:Heap}
theorem c8.okX{qual:Str}{st:Stmt}{f:Addr}{ps:NG}{sp:Sp}(F:c8 K x qual st f fd)(S:az N ps (am st))(len:∀vs H Q E,sp vs H Q E->vs.length=ps.length)
  (hbody:∀(cdv:Value) (A:NH) (outer:List Env) (s:Nz) (H:Hp) (vs:List V) (Q:VK) (E:XK),cO k (A.deeper (envOfC qual (am st) s.heap.objs.size f cdv))->sp vs H Q E ->
   ∃t,vb (iD (j6 P w) P w K mg base N qual (am st) f cdv A outer s H E) (cI st) t/\t {nx:=λ_ H'=>Q .non H',rt:=Q} (start N vs) H):aV P w K mg base (j6 P w) (k+1) f fd ps sp:=by
 obtain⟨oc,od,kV,doc,pm,an,cdv,ct,osl,rfl,c,b⟩:=F.ex;exact DM c b S len λA outer s H vs Q E hr a=>hbody cdv A outer s H vs Q E hr a
theorem aV.lift{CX:iI}{f:Addr}{ps:NG}{sp:Sp}(F:↑aV k f fd ps sp):aV P w K mg base CX k f fd ps sp:=
 ⟨F.len,λA outer s H args us vs Q E hr he hb hv hs=>codeAny_mono (F.run A outer s H args us vs Q E hr he hb hv hs) λr s' hq=>by
  cases r with
  |error e=>exact False.elim hq
  |ok fl=>cases fl<;>exact hq⟩
theorem df.lift{CX:iI}{ps:NG}{sp:Sp}(c:↑df k x ps sp):df P w K mg base CX k x ps sp:=by
 obtain⟨f,a,F,r⟩:=c.ex;exact⟨f,a,F.lift,r⟩
end
theorem nZ{X:Cx}{K:Nv}{es:NL}{t:D2}{n:Nat}{pos:Pos}(hK:X.K=K)(hc:X.calm=true)(h:Ht X es t)
  (hn:autoParam ((assignEach es X.env).length=n) zz0._auto_1) (hst:autoParam ((assignEach es X.env).findIdx? (·.1)=none) zz0._auto_1):PG X (.Tuple es k pos) (yU K n t):=hK▸yv hc h hn hst
section
variable {K:Nv}{g:TG}{ti:TT}{te:TE}{σ:St}{H:Hp}{Q:List V->Hp->Prop}
theorem DD{b:Addr}{xs ys:List V}{n:Nat}(hn:n=min xs.length ys.length)(Pv:Nat->List V->St->Hp->Prop)(h0:Pv 0 [] σ H)(hz:∀i acc σ H,Pv i acc σ H->acc.length<sizeLine)(hi:∀i acc σ H,Pv i acc σ H->i<=n)
  (hl:∀i acc σ H,Pv i acc σ H->aI K H a xs/\aI K H b ys)
  (hs:∀i x y acc σ H T,xs[i]?=some x->ys[i]?=some y->Pv i acc σ H->H T=none->g (.ref T) σ (aD H T (.tup [x,y])) λσ2 H3=>ti σ2 H3 λb H4=>if b=true then te σ2 H4 λv H5=>Pv (i+1) (acc++[v]) σ2 H5 else Pv (i+1) acc σ2 H4)
  (he:∀acc σ H,Pv n acc σ H->Q acc H):fN (II K a b) g ti te σ H Q:=by
 refine jg (J:=II K a b) (g:=g) (ti:=ti) (te:=te) (Q:=Q) (n:=n) Pv h0 hz hi (λacc σ H w=>⟨xs,ys,(hl _ _ _ _ w).1,(hl _ _ _ _ w).2,⋯⟩)
  (λi acc σ H hlt w=>⟨xs,ys,xs[i]'⋯,ys[i]'⋯,(hl _ _ _ _ w).1,(hl _ _ _ _ w).2,Mv ⋯,Mv ⋯⟩) (λi x acc σ H H2 hlt w y=>?_) he
 obtain⟨T,x,y,rfl,e,rfl,d,c⟩:=y;exact hs i x y acc σ H T (d xs (hl _ _ _ _ w).1) (c ys (hl _ _ _ _ w).2) w e
end
end L2
namespace QL
open PySem
theorem ri:bootBuiltins "ValueError"=some (.type "ValueError"):=by decide +kernel
end QL
namespace L2
open PySem PySem.Spec PyProof.Rows
def Iy(K:Nv)(a:Addr):It:=
 ⟨λi H=>∃xs x,aI K H a xs/\xs[i]?=some x,λi H v H'=>∃T x,v=.ref T/\H T=none/\H'=aD H T (.tup [.int (i:Int),x])/\∀xs,aI K H a xs->xs[i]?=some x,λi H=>∃xs,aI K H a xs/\xs.length<=i⟩
theorem AR{K:Nv}{elts:NL}{tp:Pos}{e it:Addr}(hei:e≠it) :
  uJ P w K (.Tuple elts x1 tp) (Iy K l) [e,it] e (λi h=>(∃old,IsEnum h e it i old)/\h.IsListIter it l i) where
 mem:=by simp
 obj:=λi h d b n=>by
  obtain⟨⟨old,a⟩,⟨Z,S,c1,d1⟩⟩:=d;simp only[MQ,List.not_mem_nil,or_false]at n;rcases n with rfl | rfl
  ·exact⟨_,a,λv q=>by cases q⟩
  ·exact⟨_,S,λv q=>by rw[d1]at q;cases q⟩
 keep:=λi h T d m=>by
  obtain⟨⟨old,a⟩,h1⟩:=d;exact⟨⟨old,m e (by simp) _ a⟩,h1.at λo e'=>m it (by simp) o e'⟩
 item:=by
  intro X O J R g i r s σ H E I hf d hg;subst O J R;obtain⟨U,x,y,G⟩:=hg;obtain⟨C,B,p,hz⟩:=I.list y;obtain⟨u,hu,Y⟩:=B.get G;obtain⟨⟨old,a⟩,h1⟩:=d;obtain⟨Z,S,_⟩:=id h1;refine wpAny_pyNext_enum_item a h1 p.isList (x:=u) (by simpa using hu) hei λT a1 a2 a3 a4 m=>?_;refine⟨_,rfl,wpAny_letOwnedTupleGo_enum a1 λh2 M j=>?_⟩;have k:H s.heap.objs.size=none:=I.hok.fresh (MY _);have lt:∀{c o},s.heap.get? c=some o->s.heap.objs.size≠c:=λe=>Nat.ne_of_gt (M4 e);have kk:∀c o,c∉[e,it]->s.heap.get? c=some o->h2.get? c=some o:=λc o g q=>
   j.extBut _ _ (λz=>g (by simp[z])) (m c o (λz=>g (by simp[z])) (λz=>g (by simp[z])) q)
  have hT:h2.get? s.heap.objs.size=some {cls:=.type "tuple",data:=.seq #[.int i s.toks,u]}:=j.extBut _ _ (lt a) a3;refine⟨.ref s.heap.objs.size,aD H s.heap.objs.size (.tup [.int i,x]),I.movedT (tk:=s.toks+1) hf kk (MY _) ⟨show 2<=sizeLine from by decide +kernel,[.int i s.toks,u],.cons ⟨_,rfl⟩ (.cons Y .nil),_,hT,rfl,_,rfl⟩,rfl,
   ⟨_,x,rfl,k,rfl,λzs D=>by rw[I.list_inj D y];exact G⟩,⟨⟨u,by simpa using M⟩,a2.extBut j.extBut (Ne.symm hei)⟩,λb n=>?_⟩
  have L:b≠s.heap.objs.size:=by
   simp only[MQ,List.not_mem_nil,or_false]at n;rcases n with rfl | rfl
   ·exact(lt a).symm
   ·exact(lt S).symm
  rw[aq L];exact(hf b n).1
 done:=by
  intro X O J R g i r s σ H E I hf d hg;subst O J R;obtain⟨U,y,G⟩:=hg;obtain⟨C,B,p,hz⟩:=I.list y;obtain⟨⟨old,a⟩,h1⟩:=d;have l1':=B.length;refine wpAny_pyNext_enum_end (I.ok.hd g) a h1 p.isList (by simp;omega) λT m=>⟨rfl,I.moved (tk:=s.toks) hf λc o g e=>m c o (λq=>g (by simp[q])) e⟩
 self:=λ_ _ _ _ _ d h=>let ⟨⟨_,a⟩,_⟩:=d;wpAny_pyIter_enum a h
section
variable {X:Cx}{elts:NL}{x1:Nat}{tp:Pos}
def BZ(K:Nv)(ta:TA):TI:=λσ H R=>ta σ H λvs H1=>∃a xs,vs=[.ref a]/\aI K H1 a xs/\R (Iy K a) H1
theorem n0{a:Expr}{ta:TA}{p pos:Pos}(hg:Gl X "enumerate")(hm:X.mg "enumerate"=none)(ha:PA X [a] ta)(hs:autoParam (starEach [a] X.env=[(false,eval a X.env)]) zz0._auto_1):PI X (.Tuple elts x1 tp) (.Call (.Name "enumerate" p) [a] [] pos) (BZ X.K ta):=by
 intro c s σ H R I h;refine Call_ (eO I hg hm boot_enumerate (PyProof.Rows.callWith_type1 (b6 (ha pos c s σ H _ I h) λus d ⟨vs,H1,i,o,r⟩=>?_) (by rw[hs];rfl) (by rfl)));obtain⟨l,xs,rfl,w,q⟩:=r;obtain⟨u,rfl,n⟩:=o.one;cases n;obtain⟨its,rv,v,_⟩:=i.list w;refine call_enumerate_list v.isList λy j m z3 x=>?_;have z:Inv X c σ H1 {d with heap:=y }:=i.kept (t':=d.toks) x;refine wpAny_pyIter_enum j ?_;refine⟨d.heap.objs.size+1,[d.heap.objs.size+1,d.heap.objs.size],_,_,H1,rfl,z,AR (l:=l) (Nat.ne_of_gt (M' _)),⟨⟨_,j⟩,m⟩,λb k=>?_,q⟩;have g:d.heap.objs.size<=b:=by
  simp only[MQ,List.not_mem_nil,or_false]at k;rcases k with e | e<;>(rw[e];first | exact MY _ | exact Nat.le_add_right _ _)
 exact i.fpOk g (i.hok.fresh g)
end
section
variable {K:Nv}{g:TG}{tb:TS}{D:fE}{σ:St}{H:Hp}
theorem mw{xs:List V}(Pv:Nat->St->Hp->Prop)(h0:Pv 0 σ H)(hl:∀i σ H,i<=xs.length->Pv i σ H->aI K H a xs)
  (hs:∀(i:Nat) x σ H T,xs[i]?=some x->Pv i σ H->H T=none->g (.ref T) σ (aD H T (.tup [.int (i:Int),x])) λσ2 H2=>tb {D with nx:=Pv (i+1),ct:=Pv (i+1),bk:=D.nx} σ2 H2) (hd:∀σ H,Pv xs.length σ H->D.nx σ H):Am (Iy K a) g tb D σ H:=by
 refine⟨λi m σ H=>m=xs.length-i/\i<=xs.length/\Pv i σ H,⟨xs.length,by simp,MZ _,h0⟩,?_⟩;rintro i m σ H ⟨rfl,c,p⟩;have q:=hl i σ H c p
 by_cases b:i<xs.length
 ·refine .inr ⟨⟨xs,xs[i],q,by simp[b]⟩,Pv (i+1),λσ' j p'=>⟨xs.length-(i+1),⋯,rfl,b,p'⟩,λx j y=>?_⟩
  obtain⟨T,x,rfl,d,rfl,y⟩:=y;exact hs i x σ _ T (y xs q) p d
 ·have e:i=xs.length:=by omega
  subst e;exact .inl ⟨⟨xs,q,MY _⟩,hd σ H p⟩
end
end L2
namespace PySem.W
open PySem PySem.Spec PySem.Calls PyProof.Rows
open Builtin Builtin.ObjectAttr
def excOut(K:Frag)(C:Addr)(bmB:NA)(newId:String):Bool:=match K.lookup C with
 |some ⟨.type "type",_,.cls cd,sl⟩=>(match cd.mro,sl.toList with
  | .ref C'::bm,[_,_,_,_,some (.builtin n),_]=>C'==C&&n==newId && !cd.hasDel&&tailIn K bmB bm&&nsOkIn K cd.ns
  |_,_=>false)
 |_=>false
def Fy:List Value->List Value
 | .ref _::r=>Fy r
 |l=>l
end PySem.W
namespace L2
open PySem PySem.Spec PyProof.Rows
structure t_(K:Nv)(C:Addr)(bmB:NA)(newId:String):Prop where
 exc:PySem.W.excOut K C bmB newId=true
set_option tactic.hygienic true in
theorem t_.obj{K:Nv}{bmB:NA}{newId:String}(c:t_ K C bmB newId)(X:K.In h):∃bm N nm q bs hdct sn sub ab col dd k0 k1 k2 k3 k5,
  h.get? C=some (excClassObj nm q C N bs bm hdct sn sub ab col dd k0 k1 k2 k3 k5 newId)/\OwnTail h bmB bm/\∃dd' cd sl,K.lookup C=some ⟨.type "type",dd',.cls cd,sl⟩/\cd.mro=.ref C::bm:=by
 have q:=c.exc;unfold PySem.W.excOut at q;cases hl:K.lookup C with
 |none=>rw[hl]at q;cases q
 |some ob=>
  rw[hl]at q
  split at q
  ·rename_i dd cd sl e
   cases e
   split at q
   ·rename_i C' bm k0 k1 k2 k3 n k5 hm hs
    simp only[q0O,beq_iff_eq,Bool.not_eq_true']at q;obtain⟨⟨⟨⟨rfl,rfl⟩,hdel⟩,ht⟩,hok⟩:=q;have ho:=X _ _ hl;have hsl:sl=#[k0,k1,k2,k3,some (.builtin n),k5]:=Array.toList_inj.mp hs;subst hsl;obtain⟨nm,bs,mro,ns,qn,hd,sn,sub,ab,col,del⟩:=cd;dsimp only at hm hdel hok ho;subst hm hdel;exact⟨bm,ns,nm,qn,bs,hd,sn,sub,ab,col,dd,k0,k1,k2,k3,k5,ho,PySem.W.tail_of_in X ht,dd,_,_,rfl,rfl⟩
   ·cases q
  ·cases q
def Ix(H:Hp)(a C:Addr):Prop:=H a=some (xo a (.ref C) none)\/∃d fs,H a=some (xo a (.ref C) (some d))/\H d=some (.xd fs)
section
variable {X:Cx}{pins:Nw}{σ:St}{H:Hp}{s:Nz}
theorem Ix.inst(I:Inv X pins σ H s)(r:Ix H a C):∃odo ox,PySem.W.InstAt s.heap a ox C odo:=by
 rcases r with r | ⟨d,fs,r,b⟩
 ·obtain⟨e,_⟩:=(show bU X.prog X.w H s.heap a (xo a (.ref C) none) from I.hok a _ r)
  obtain⟨ox,z⟩:=Cp e;exact⟨none,ox,z⟩
 ·obtain⟨⟨o,vs,l,k,j,i⟩,_⟩:=(show bU X.prog X.w H s.heap a (xo a (.ref C) (some d)) from I.hok a _ r)
  obtain⟨mA,n,_⟩:=(show bU X.prog X.w H s.heap d (.xd fs) from I.hok d _ b);obtain⟨c,g,_⟩:=rq n;exact⟨some c,o,l,k,by unfold PySem.W.notCls;rw[i],by rw[j];exact g⟩
def Ij(K:Nv):List V->Hp->VK->Prop:=λxs H Q=>DC K xs H Q \/
 (∃a C c b,xs=[.ref a,c]/\kl c=true/\Ix H a C/\PySem.W.XTy K C/\PySem.W.kitOne K (.ref C) (yi c)=some b/\Q (.bl b) H) \/
 (∃a C tp cs b,xs=[.ref a,.ref tp]/\H tp=some (.tup cs)/\(∀c∈cs,kl c=true)/\Ix H a C/\PySem.W.XTy K C/\PySem.W.kitAny K (.ref C) (cs.map yi)=some b/\Q (.bl b) H)
theorem gx:dH X (.builtin "isinstance") (Ij X.K):=by
 intro d s σ H xs us Q I r h;rcases h with h | ⟨a,C,c,b,rfl,l,m,ty,e,q⟩ | ⟨a,C,p,D,b,rfl,y,l,m,ty,e,q⟩
 ·exact bI d s σ H xs us Q I r h
 ·obtain⟨u,v,rfl,j,i⟩:=r.two
  cases j;rw[u6 i l];obtain⟨odo,k⟩:=m.inst I;exact PySem.W.kia_one (PySem.W.kitx_exc (odo:=odo) ty) I.kIn k e (λz=>nomatch z) λg=>⟨.bl b,H,I.tok g,rfl,q⟩
 ·obtain⟨u,v,rfl,j,i⟩:=r.two
  cases j;cases i;obtain⟨odo,k⟩:=m.inst I;obtain⟨_,its,rvs,o,h1,h2,n,x⟩:=(show bU X.prog X.w H s.heap p (.tup D) from I.hok p _ y);obtain⟨oc,odd,odt,osl⟩:=o;dsimp only at h2 x;subst h2 x;have B:=wj rvs l;subst B;exact PySem.W.kia_tup (PySem.W.kitx_exc (odo:=odo) ty) I.kIn k h1 e (λz=>nomatch z) λg=>⟨.bl b,H,I.tok g,rfl,q⟩
end
end L2
namespace PySem.W
open PySem PySem.Spec PySem.Calls PyProof.Rows
end PySem.W
namespace SpM
open PySem
def glue(c:Nat):List (List Nat)->List Nat
 | []=>[]
 | [p]=>p
 |p::q::r=>p++c::glue c (q::r)
def step(c:Nat)(rows:List (List Nat))(d:Nat):List (List Nat):=if d=c then rows++[[]] else rows.dropLast++[rows.getLastD []++[d]]
def parts(c:Nat)(x:Ny):List (List Nat):=x.foldl (step c) [[]]
theorem zh{c:Nat}:∀{p q a b:Ny},c∉p->c∉q->p++c::a=q++c::b->p=q/\a=b
 | [],[],a,b,_,_,e=>⟨rfl,by simpa using e⟩
 | [],y::q,a,b,_,hq,e=>by simp at e;exact q0Q e.1 (λz=>hq (by simp[z]))
 |x::p,[],a,b,hp,_,e=>by simp at e;exact q0Q e.1.symm (λz=>hp (by simp[z]))
 |x::p,y::q,a,b,hp,hq,e=>by
  simp at e;obtain⟨e1,e2⟩:=zh (p:=p) (q:=q) (λz=>hp (by simp[z])) (λz=>hq (by simp[z])) e.2;exact⟨by rw[e.1,e1],e2⟩
theorem glue_inj(c:Nat):∀{rows rows':List (List Nat)},rows≠[]->rows'≠[]->(∀p∈rows,c∉p)->(∀p∈rows',c∉p)->glue c rows=glue c rows'->rows=rows'
 | [p],[q],_,_,_,_,e=>by simpa[glue]using e
 | [p],q::q'::r,_,_,hf,_,e=>by
  have:c∈p:=by rw[show p=q++c::glue c (q'::r) from e];simp
  exact q0Q this (hf p (by simp))
 |p::p'::r,[q],_,_,_,hf,e=>by
  have:c∈q:=by rw[show q=p++c::glue c (p'::r) from e.symm];simp
  exact q0Q this (hf q (by simp))
 |p::p'::r,q::q'::r',_,_,h1,h2,e=>by
  obtain⟨d,b⟩:=zh (h1 p (by simp)) (h2 q (by simp)) (show p++c::glue c (p'::r)=q++c::glue c (q'::r') from e);have:=glue_inj c (rows:=p'::r) (rows':=q'::r') (by simp) (by simp) (λz a=>h1 z (by simp[a])) (λz a=>h2 z (by simp[a])) b;rw[d,this]
theorem join_glue(c:Nat):∀(ys:NG),(Builtin.Str.glued ⟨#[c]⟩ ys).cps.toList=glue c (ys.map λy=>y.cps.toList)
 | []=>rfl
 |y::ys=>by
  have key:∀(zs:NG) (a:Array Nat),(zs.foldl (λacc (p:Str)=>acc++(⟨#[c]⟩:Str).cps++p.cps) a).toList=glue c (a.toList::zs.map λy=>y.cps.toList):=by
   intro zs
   induction zs with
   |nil=>intro a;rfl
   |cons z zs ih=>
    intro a;rw[List.foldl_cons,ih];show glue c ((a ++ #[c]++z.cps).toList::_)=a.toList++c::glue c (z.cps.toList::_);have e:(a ++ #[c]++z.cps).toList=a.toList++c::z.cps.toList:=by simp
    rw[e];cases zs with
    |nil=>simp[glue]
    |cons w ws=>simp[glue]
  exact key ys y.cps
end SpM
namespace PyProof.Rows
open PySem PySem.Spec PySem.Builtin PySem.Builtin.Str
end PyProof.Rows
namespace L2
open PySem PySem.Spec PyProof.Rows QL
structure C6(K:Nv)(C:Addr)(m:Str)(f:Addr):Prop where
 sp:PySem.W.specialIn K (.ref C) "__getattribute__"=some (some (.builtin "type.__getattribute__"))
 rd:PySem.W.readsIn K C (.type "type")=true
 fi:PySem.W.findCls K (.ref C) (.type "type") m=some (.val (.ref f))
 kp:PySem.W.keepIn K (.ref f)=true
section
variable {X:Cx}{CX:iI}{k:Nat}{f C:Addr}{fd:NE}{ps:NG}{sp:Sp}{E:XK}{x m:Str}{p pos apos:Pos}{e:Expr}{es:NL}{t:TA}
theorem DX{pl:Sem Bool}(c:C6 X.K C m f)(F:aV X.prog X.w X.K X.mg X.base CX k f fd ps sp)(hr:cO k X.A)(hg:Gl X x)(hm:X.mg x=some (.ref C))(hb:dP X.K fd ps [])(hx:dl CX X E)(ha:PA X (e::es) t)
  (hdb:autoParam ((x==("__debug__":Str))=false) zz2._auto_1) (hst:autoParam (starEach (e::es) X.env=(false,eval e X.env)::starEach es X.env) zz0._auto_1) (hpl:autoParam ((backTo pos (starEach es X.env)).any (·.1)=false) zz0._auto_1)
  (ht:autoParam (eval (.Call (.Attribute (.Name x p) m apos) (e::es) [] pos) X.env=(do
   let ov <- eval (.Name x p) X.env
   standAt apos.atName
   let (f,first) <- holding [ov] (getMethod ov m pl)
   callWith pos f first (backTo pos (starEach (e::es) X.env)) (backToKw pos (keywordEach [] X.env)))) zz0._auto_1) :
  PE X (.Call (.Attribute (.Name x p) m apos) (e::es) [] pos) (m8 sp [] E t):=by
 intro a s σ H Q I h;refine PySem.W.methodCall_KW (pl:=pl) (g8 I hg hm ?_ hdb) ht;refine PySem.W.method_cls I.kIn c.sp (PySem.W.cls_value I.kIn c.rd c.fi rfl ?_);have g:=I.tok (s.toks+1);refine PySem.W.callWith_K (first:=[]) (h₀:=X.base) I.ok.mod.kin c.kp (b6 (ha pos a _ σ H _ g h) λus s2 ⟨vs,H2,b,r,d⟩=>⟨b.kIn,?_⟩) hst hpl;exact lH F hr hb .nil hx b r d
end
section
variable (P:NF)(w:NJ)(K:Nv)(mg:ND)(base:Heap)(CX:iI)
structure Bc(k:Nat)(x m:Str)(ps:NG)(sp:Sp):Prop where
 ex:∃(C f:Addr) (fd:NE),aV P w K mg base CX k f fd ps sp/\mg x=some (.ref C)/\C6 K C m f/\dP K fd ps []
structure l_(k:Nat)(x:Str)(C:Addr)(ps:NG)(sp:Sp):Prop where
 ex:∃(f:Addr) (fd:NE),aV P w K mg base CX k f fd ps sp/\mg x=some (.ref C)/\Mk K C f/\dP K fd ps []
structure ij(k:Nat)(C:Addr)(m:Str)(ps:NG)(sp:Sp):Prop where
 ex:∃(f:Addr) (fd:NE),aV P w K mg base CX k f fd ps sp/\iF K C/\iz K C m f/\dP K fd ps []
end
section
variable {X:Cx}{CX:iI}{k:Nat}{C:Addr}{ps:NG}{sp:Sp}{E:XK}{x m:Str}{p pos apos:Pos}{e o:Expr}{es:NL}{t:TA}{ta:TE}
theorem nX{pl:Sem Bool}(c:Bc X.prog X.w X.K X.mg X.base CX k x m ps sp)(hr:cO k X.A)(hg:Gl X x)(hx:dl CX X E)(ha:PA X (e::es) t)
  (hdb:autoParam ((x==("__debug__":Str))=false) zz2._auto_1) (hst:autoParam (starEach (e::es) X.env=(false,eval e X.env)::starEach es X.env) zz0._auto_1) (hpl:autoParam ((backTo pos (starEach es X.env)).any (·.1)=false) zz0._auto_1)
  (ht:autoParam (eval (.Call (.Attribute (.Name x p) m apos) (e::es) [] pos) X.env=(do
   let ov <- eval (.Name x p) X.env
   standAt apos.atName
   let (f,first) <- holding [ov] (getMethod ov m pl)
   callWith pos f first (backTo pos (starEach (e::es) X.env)) (backToKw pos (keywordEach [] X.env)))) zz0._auto_1) :
  PE X (.Call (.Attribute (.Name x p) m apos) (e::es) [] pos) (m8 sp [] E t):=by
 obtain⟨C,f,fd,F,a,d,b⟩:=c.ex;exact DX d F hr hg a b hx ha hdb hst hpl ht
theorem jo(c:l_ X.prog X.w X.K X.mg X.base CX k x C ps sp)(hr:cO (k+1) X.A)(hg:Gl X x)(hx:dl CX X E)(ha:PA X (e::es) t)
  (hdb:autoParam ((x==("__debug__":Str))=false) zz2._auto_1) (hst:autoParam (starEach (e::es) X.env=(false,eval e X.env)::starEach es X.env) zz0._auto_1) (hpl:autoParam ((backTo pos (starEach es X.env)).any (·.1)=false) zz0._auto_1) :
  PE X (.Call (.Name x p) (e::es) [] pos) (zD C sp [] E t):=by
 obtain⟨f,fd,F,a,M,b⟩:=c.ex;exact E4 M F hr hg a b .nil hx ha hdb hst hpl
theorem kW{pl:Sem Bool}(c:ij X.prog X.w X.K X.mg X.base CX k C m ps sp)(hr:cO k X.A)(hx:dl CX X E)(he:PE X o ta)(ha:PA X (e::es) t)
  (hst:autoParam (starEach (e::es) X.env=(false,eval e X.env)::starEach es X.env) zz0._auto_1) (hpl:autoParam ((backTo pos (starEach es X.env)).any (·.1)=false) zz0._auto_1)
  (ht:autoParam (eval (.Call (.Attribute o m apos) (e::es) [] pos) X.env=(do
   let ov <- eval o X.env
   standAt apos.atName
   let (f,first) <- holding [ov] (getMethod ov m pl)
   callWith pos f first (backTo pos (starEach (e::es) X.env)) (backToKw pos (keywordEach [] X.env)))) zz0._auto_1) :
  PE X (.Call (.Attribute o m apos) (e::es) [] pos) (sM C m sp [] E ta t):=by
 obtain⟨f,fd,F,d,a,b⟩:=c.ex;exact El he d a F hr b .nil hx ha hst hpl ht
theorem qh{pl:Sem Bool}(c:ij X.prog X.w X.K X.mg X.base CX k C m ps sp)(hr:cO k X.A)(hx:dl CX X E)(he:PE X o ta)
  (ht:autoParam (eval (.Call (.Attribute o m apos) [] [] pos) X.env=(do
   let ov <- eval o X.env
   standAt apos.atName
   let (f,first) <- holding [ov] (getMethod ov m pl)
   callWith pos f first (backTo pos (starEach [] X.env)) (backToKw pos (keywordEach [] X.env)))) zz0._auto_1) :
  PE X (.Call (.Attribute o m apos) [] [] pos) (sM C m sp [] E ta oz):=by
 obtain⟨f,fd,F,d,a,b⟩:=c.ex;exact Dw he d a F hr b .nil hx ht
end
section
variable {g:TG}{ti:TT}{te:TE}{σ:St}{H:Hp}{Q:List V->Hp->Prop}
theorem v3{x:Str}(Pv:Nat->List V->St->Hp->Prop)(h0:Pv 0 [] σ H)(hz:∀i acc σ H,Pv i acc σ H->acc.length<sizeLine)(hi:∀i acc σ H,Pv i acc σ H->i<=x.cps.size)
  (hs:∀i c acc σ H,x.cps[i]?=some c->Pv i acc σ H->g (.str ⟨#[c]⟩) σ H λσ2 H3=>ti σ2 H3 λb H4=>if b=true then te σ2 H4 λv H5=>Pv (i+1) (acc++[v]) σ2 H5 else Pv (i+1) acc σ2 H4)
  (he:∀acc σ H,Pv x.cps.size acc σ H->Q acc H):fN (Hr x) g ti te σ H Q:=by
 exact jg (J:=Hr x) (g:=g) (ti:=ti) (te:=te) (Q:=Q) (n:=x.cps.size) Pv h0 hz hi (λacc σ H w=>MY _) (λi acc σ H hlt w=>hlt)
  (λi v acc σ H H2 hlt w y=>by obtain⟨rfl,c,a,rfl⟩:=y;exact hs i c acc σ H2 a w) he
end
section
variable (P:NF)(w:NJ)(K:Nv)(mg:ND)(base:Heap)(CX:iI)
structure yA(k:Nat)(m:Str)(os:List (Addr×Sp)):Prop where
 ex:∀o∈os,∃ps,ij P w K mg base CX k o.1 m ps o.2
end
def ul(m:Str)(os:List (Addr×Sp))(E:XK)(ta:TE)(t:TA):TE:=λσ H Q=>ta σ H λx H1=>∃o∈os,∃a dx fs,x=.ref a/\H1 a=some (.ins o.1 dx fs)/\fs.lookup m=none /\
 t σ H1 λvs H2=>o.2 (x::(vs++[])) H2 Q E
section
variable {X:Cx}{CX:iI}{k:Nat}{os:List (Addr×Sp)}{E:XK}{m:Str}{pos apos:Pos}{e o:Expr}{es:NL}{t:TA}{ta:TE}
theorem D8{pl:Sem Bool}(c:yA X.prog X.w X.K X.mg X.base CX k m os)(hr:cO k X.A)(hx:dl CX X E)(he:PE X o ta)(ha:PA X (e::es) t)
  (hst:autoParam (starEach (e::es) X.env=(false,eval e X.env)::starEach es X.env) zz0._auto_1) (hpl:autoParam ((backTo pos (starEach es X.env)).any (·.1)=false) zz0._auto_1)
  (ht:autoParam (eval (.Call (.Attribute o m apos) (e::es) [] pos) X.env=(do
   let ov <- eval o X.env
   standAt apos.atName
   let (f,first) <- holding [ov] (getMethod ov m pl)
   callWith pos f first (backTo pos (starEach (e::es) X.env)) (backToKw pos (keywordEach [] X.env)))) zz0._auto_1) :
  PE X (.Call (.Attribute o m apos) (e::es) [] pos) (ul m os E ta t):=by
 intro b s σ H Q I h;refine PySem.W.methodCall_KW (pl:=pl) (b6 (he b s σ H _ I h) λu j ⟨x,H1,i,n,v,w,a,dx,fs,ex,z,l,q⟩=>?_) ht;subst ex;obtain rfl:u=Value.ref a:=n;obtain⟨ps,B⟩:=c.ex v w;obtain⟨f,fd,F,C,d,y⟩:=B.ex;refine fP i z C d l ?_;refine PySem.W.callWith_K (first:=[.ref a]) (h₀:=X.base) I.ok.mod.kin d.kp (b6 (ha pos b j σ H1 _ i q) λus s2 ⟨vs,H2,g,r,p⟩=>⟨g.kIn,?_⟩) hst hpl;exact lH (us:=.ref a::us) (vs:=.ref a::vs) F hr y .nil hx g (.cons rfl r) p
theorem BF{pl:Sem Bool}(c:yA X.prog X.w X.K X.mg X.base CX k m os)(hr:cO k X.A)(hx:dl CX X E)(he:PE X o ta)
  (ht:autoParam (eval (.Call (.Attribute o m apos) [] [] pos) X.env=(do
   let ov <- eval o X.env
   standAt apos.atName
   let (f,first) <- holding [ov] (getMethod ov m pl)
   callWith pos f first (backTo pos (starEach [] X.env)) (backToKw pos (keywordEach [] X.env)))) zz0._auto_1) :
  PE X (.Call (.Attribute o m apos) [] [] pos) (ul m os E ta oz):=by
 intro b s σ H Q I h;refine PySem.W.methodCall_KW (pl:=pl) (b6 (he b s σ H _ I h) λu s1 ⟨x,H1,d,g,i,j,a,dx,fs,ex,p,l,q⟩=>?_) ht;subst ex;obtain rfl:u=Value.ref a:=g;obtain⟨ps,r⟩:=c.ex i j;obtain⟨f,fd,F,v,e,n⟩:=r.ex;refine fP d p v e l ?_;exact PySem.W.callWith_K0 (first:=[.ref a]) d.kIn e.kp (lH (us:=[.ref a]) (vs:=[.ref a]) F hr n .nil hx d (.cons rfl .nil) q)
end
structure jE(K:Nv)(C:Addr):Prop where
 cl:iF K C
 ha:PySem.W.findIn K (.ref C) "__class__"=some (some (.builtin "object.__class__"))
 hn:PySem.W.specialIn K (.builtin "object.__class__") "__get__"=some (some (.builtin "getset_descriptor.__get__"))
 htk:PySem.W.takesIn K (.builtin "object.__class__")=some true
 hm:PySem.W.mroIn K C (.type "object")=some true
theorem jE.ty{K:Nv}{H:Hp}{fs:List (Str×V)}(i:jE K C)(e:H a=some (.ins C dx fs)):gK K H (.ref a) (.ref C):=.ins e i.cl i.ha i.hn i.htk i.hm
section
variable {X:Cx}{es:NL}{t:TA}
theorem iR{x j p}(hr:PA X es t):PA X (.Constant (.str x) j p::es) (lD (tC (.str x)) t):=aa qk hr rfl
theorem ci{x j p}(hr:PA X es t):PA X (.Constant (.int x) j p::es) (lD (tC (.int x)) t):=aa aj hr rfl
end
end L2
namespace PyProof.Rows
open PySem PySem.Spec PySem.Builtin PySem.Builtin.Str
end PyProof.Rows
namespace L2
open PySem PySem.Spec PyProof.Rows QL
theorem t9:∀(xs:List V) (us:NA),xs.length=us.length->(∀(j:Nat) (x:V) (u:Value),xs[j]?=some x->us[j]?=some u->bx x u)->bj xs us
 | [],[],_,_=>.nil
 |x::xs,u::us,hl,h=>.cons (h 0 x u rfl rfl) (t9 xs us (by simpa using hl) λj y v e1 e2=>h (j+1) y v (by simpa using e1) (by simpa using e2))
section
variable {X:Cx}{pins:Nw}{σ:St}{H:Hp}{s:Nz}{a:Addr}{kvs:List (c_×V)}{k:c_}{u r:Value}{d:V}{A:NH}{E:Nu}
theorem BD{Q:Nu}(I:Inv X pins σ H s)(e:H a=some (.dK kvs))(ry:bx (kV k) u)(rd:bx d r)(hl:kvs.length<sizeLine)
  (h1:∀v w' s',dQ kvs k=some v->Inv X pins σ H s'->bx v w'->Q w' s') (h2:dQ kvs k=none->∀s',Inv X pins σ (aD H a (.dK (dF kvs k d))) s'->Q r s') :
  wpAny (model X.prog X.w) A (call (.builtin "dict.setdefault") [.ref a,u,r]) Q E s:=by
 obtain⟨z,j,vs,c,l⟩:=rU I.hok e;have m:vs.length<=sizeLine:=by rw[<- c.length];exact z
 have i:(dF kvs k d).length<=sizeLine:=by have:=fW kvs k d;omega
 refine call_meetsIn PySem.F.slot_dict_setdefault l.typeIs PySem.F.entry_dict_setdefault (PySem.F.args_dict_setdefault_3 _ _ _) (kt_meets_setdefault (bV X.prog X.w) a (m_ ry) j r) ⟨vs,l,m,λv n=>?_,λp y g o=>?_⟩
 ·have q:=c.val k
  rw[n]at q;cases b:dQ kvs k with
  |none=>rw[b]at q;exact False.elim q
  |some v0=>rw[b]at q;exact h1 v0 v _ b (I.tok _) q
 ·have q:=c.val k
  rw[p]at q;have b:dQ kvs k=none:=by
   cases b:dQ kvs k with
   |none=>rfl
   |some v0=>rw[b]at q;exact False.elim q
  have x:∃q,y.get? a=some q:=let ⟨q,_,_,hq,_⟩:=g;⟨q,hq⟩
  exact h2 b _ (n_ I (by rw[e];exact True.intro) o x (xY i j (c.put k rd) g))
end
def vX(td ty tx:TE):TE:=λσ H Q=>td σ H λx H1=>∃a,x=.ref a/\IT H1 a/\ty σ H1 λy H2=>tx σ H2 λz H3=>∃kvs k,H3 a=some (.dK kvs)/\y=kV k/\kvs.length<sizeLine /\
 (∀v,dQ kvs k=some v->Q v H3)/\(dQ kvs k=none->Q z (aD H3 a (.dK (dF kvs k z))))
section
variable {X:Cx}{o e f:Expr}{apos cpos:Pos}{td ty tx:TE}
theorem oU(ho:PE X o td)(he:PE X e ty)(hf:PE X f tx)(m:M2 X o "setdefault" apos e f cpos):PE X (.Call (.Attribute o "setdefault" apos) [e,f] [] cpos) (vX td ty tx):=by
 intro b s σ H Q I h;refine wpAny_Call_method m.base m.few m.line PySem.F.plainAttrs_dict PySem.F.slot_dict_setdefault PySem.F.type_dict_setdefault (b6 (ho b s σ H _ I h) λu r ⟨x,H1,j,B,a,T,d,G⟩=>?_);subst T;obtain rfl:u=Value.ref a:=B;obtain⟨n,l,_⟩:=xZ j d;refine⟨n,l,?_⟩;rw[m.trees];refine Calls.callWith_builtin rfl (Calls.evalArgs_plain (Calls.spliced_cons (b6 (he b r σ H1 _ j G) λiv q ⟨y,H2,Y,w,D⟩=>
  Calls.spliced_cons (b6 (hf b q σ H2 _ Y D) λfv s3 ⟨z,Z,U,i,kvs,k,M,S,c,R,O⟩=>Calls.spliced_nil ?_))))
 subst S;exact BD U M w i c (λv w' p J g C=>⟨v,Z,g,C,R v J⟩) λL p g=>⟨z,_,g,i,O L⟩
end
theorem H_(h:(bV P w).is k u=true):bx (kV k) u:=by
 rcases cn (show pG k u=true from h) with⟨i,t,rfl,rfl⟩ | ⟨x,t,rfl,rfl⟩<;>exact⟨_,rfl⟩
section
variable {X:Cx}
def ym:List V->Hp->VK->Prop:=λxs H Q=>∃a kvs,xs=[.ref a]/\H a=some (.dK kvs)/\∀l,H l=none->Q (.ref l) (aD H l (.lst (kvs.map λkv=>kV kv.1)))
theorem xl(hc:X.calm=true):dH X (.type "list") ym:=by
 intro pins s σ H xs us Q I r h;obtain⟨a,g,rfl,e,q⟩:=h;obtain⟨u,rfl,o⟩:=ow r;obtain rfl:u=Value.ref a:=o;obtain⟨z,hd,vs,d,J⟩:=rU I.hok e;obtain⟨ep,L⟩:=J.dictAt;have p:vs.length<=sizeLine:=by rw[<- d.length];exact z
 refine PySem.W.kdl_call (PySem.W.kdl_dict hd) (I.ok.hd hc) L p λh' n c M B D b=>?_;have v:bj (g.map λi=>kV i.1) c.toList:=by
  refine t9 _ _ (by rw[My];simp[b.1,d.length]) λj x u m G=>?_;obtain⟨k,w,l,C⟩:=b.2 j u (by simpa using G);have y:(g.map λi=>kV i.1)=(vs.map (·.1)).map kV:=by rw[<- d.keys,MP];rfl
  rw[y,MA,MA,l]at m;cases m;exact H_ C
 exact⟨.ref s.heap.objs.size,aD H s.heap.objs.size (.lst (g.map λi=>kV i.1)),I.laid (t':=n) B (MY _) ⟨by rw[My];exact z,c.toList,M,v,by simpa using D⟩,rfl,q _ (I.hok.fresh (MY _))⟩
end
section
variable {K:Type}[DecidableEq K]
def f'(σ:List K)(v:K):List K:=if v∈σ then σ else σ++[v]
def met(l:List K):List K:=l.foldl f' []
theorem vy(σ:List K)(v k:K):decide (k∈f' σ v)=(decide (k∈σ)||decide (k=v)):=by
 unfold f'
 by_cases h:v∈σ
 ·rw[q07 h]
  by_cases e:k=v
  ·subst e;simp[h]
  ·simp[e]
 ·rw[q06 h]
  simp[MO]
theorem nj(σ:List K)(v:K):(f' σ v).length=if decide (v∈σ) then σ.length else σ.length+1:=by
 unfold f'
 by_cases h:v∈σ<;>simp[h]
theorem vV(l:List K)(v:K):met (l++[v])=f' (met l) v:=by unfold met;rw[List.foldl_append];rfl
theorem zn:∀(l σ:List K),(l.foldl f' σ).length<=σ.length+l.length
 | [],σ=>MY _
 |v::l,σ=>by
  have h:=zn l (f' σ v);have e:=nj σ v;rw[List.foldl_cons,MM]
  split at e<;>omega
theorem CQ(n:Nat)(l:List K)(h:l.length=n):(met l).length<=n:=by
 have:=zn l [];rw[<- h];unfold met;simpa using this
end
section
variable {prog:NF}{w:NJ}{K:Type}[DecidableEq K]{knd:KeyKind prog w K}{A:NH}{R:Result->Shared->Prop}{I:Addr}{fp wr:NC}{G:Array GenState->Array GenState->Prop}{n:Nat}{P:Nat->Value->Prop}{St:Nat->Shared->Prop}
theorem EE(W:WalksS prog w A.in1 I fp wr G n P St)(S:Addr)(hSf:S∉fp)(l:List K)(hl:l.length=n)
  (hval:∀i v,P i v->∃k,l[i]?=some k/\knd.is k v=true/\v.scannable=true) (hb:n+1<scanBound) :
  ∀(k i:Nat) (s:Nz),n-i=k->i<=n->St i s ->
   s.heap.SetOf knd S (λk'=>decide (k'∈met (l.take i))) (met (l.take i)).length ->
   (∀s',Moved (S::wr) G s s'->s'.heap.SetOf knd S (λk'=>decide (k'∈met l)) (met l).length->R (.ok (.ret .none)) s') ->
   codeAny (model prog w) A (.builtin "set.update.loop" ⟨[.ref S,.ref I],[]⟩) R s:=by
 have y:S∉wr:=λh=>hSf (W.sub _ h);have a:∀b∈wr,b∈S::wr:=λb hb=>MR _ hb;intro k
 induction k with
 |zero=>
  intro i s hk hi c B U;have L:i=n:=by omega
  subst L;rw[<- hl,Nd]at B;refine codeAny_builtin F.entry_set_update_loop ?_;rw[Around.under_plainId F.plain_set_update_loop _];show wpAny _ A.in1 (pyNext (.ref I) >>= _) _ _ s;refine q04 (W.done s _ _ c λs' q=>?_);show wpAny _ A.in1 (ret Value.none) _ _ s';refine q05 (U s' (q.mono a) ?_);obtain⟨o,Y,Z,t,J,cN⟩:=B;exact⟨o,Y,Z,t,q.heap S _ y J,cN⟩
 |succ k ih=>
  intro i s hk hi c B U;have r:i<n:=by omega
  refine codeAny_builtin F.entry_set_update_loop ?_;rw[Around.under_plainId F.plain_set_update_loop _];show wpAny _ A.in1 (pyNext (.ref I) >>= _) _ _ s;refine q04 (W.item i s _ _ r c λv s' hP j q=>?_);obtain⟨g,u,x,D⟩:=hval i v hP;have T:s'.heap.SetOf knd S (λk'=>decide (k'∈met (l.take i))) (met (l.take i)).length:=by
   obtain⟨o,Y,Z,tb,J,cN⟩:=B;exact⟨o,Y,Z,tb,q.heap S _ y J,cN⟩
  show wpAny _ A.in1 (holding [v] (setAdd S v) >>= _) _ _ s';refine q04 (q0X ?_);unfold setAdd;refine q0X ?_;refine q04 (knd.pyHash (k:=g) x ?_);have d:(met (l.take i)).length+1<scanBound:=by have:=CQ i (l.take i) (by rw[Nf];omega);omega
  refine wpAny_setAddHashed_of (knd:=knd) (s:={s' with toks:=s'.toks+1}) x D T d λh' m O=>?_;have ht:l.take (i+1)=l.take i++[g]:=by rw[q0E,u];rfl
  have M:h'.SetOf knd S (λk'=>decide (k'∈met (l.take (i+1)))) (met (l.take (i+1))).length:=
   SetOf_congr O (λk'=>by rw[ht,vV,vy]) (by rw[ht,vV,nj])
  refine q05 ⟨plainId_quiet F.plain_set_update_loop _,ih (i+1) _ ⋯ r (W.frame _ s' _ _ j (Nat.le_succ _) λb hb o e=>?_) M λC p z=>?_⟩
  ·rw[m.2 b (λh:b=S=>hSf (by rw[<- h];exact hb))];exact e
  ·refine U C (Moved.trans W.gtrans ((q.mono a).then_heap (Nat.le_succ _) λb o hb e=>?_) p) z
   rw[m.2 b (λh:b=S=>hb (by rw[h];exact q0B))];exact e
end
def dq(z:Str):List Str:=z.cps.toList.map λc=>(⟨#[c]⟩:Str)
section
variable {prog:NF}{w:NJ}{A:NH}{E:Nu}{s:Nz}
def CT(s:Nz)(led:Bool):Shared:={s with heap:=s.heap.push {cls:=.type "set",dict:=none,data:=.set #[] 0 (.fresh 0 0 led)} }
set_option maxHeartbeats 3200000 in
theorem uZ{v:Value}{R:Heap->Nat->Prop}{Q:Nu}
  (hi:∀led,(CT s led).TypeIs (.ref s.heap.objs.size) "set"->codeAny (model prog w) A.in1 (.call (.builtin "set.__init__") {pos:=[.ref s.heap.objs.size,v]})
   (wants (λr s₂=>r=.none/\∃h' tk,s₂={s with heap:=h',toks:=tk}/\R h' tk) E) (CT s led))
  (h:∀(h':Heap) (tk:Nat),R h' tk->Q (.ref s.heap.objs.size) {s with heap:=h',toks:=tk}) :
  wpAny (model prog w) A (call (.type "set") [v]) Q E s:=by
 obtain⟨c,tl,hmro⟩:=PySem.F.called_set.mro;have hmade:=PySem.F.called_set.made;have hsub:=PySem.F.called_set.sub;refine wpAny_call (codeAny_of_tree ?_);show wpAny _ _ (callAny (.type "set") _) _ _ _;refine q05 ⟨Code.quiet_builtin _ (by decide +kernel),codeAny_builtin PySem.F.entry_type_call ?_⟩;rw[Around.under_plain (weight_type_call_type "set" [v] []) rfl];have h1:=PySem.F.called_set.notType;have h2:=PySem.F.called_set.canCreate;have hct:=PySem.F.typeCall_set_1 v
 repeat (any_goals (first | with_reducible assumption | with_reducible refine q05 ?_ | with_reducible refine q04 ?_ | with_reducible refine q0X ?_ | with_reducible refine wpAny_of_eq (by assumption) ?_ | with_reducible refine wpAny_isInstance (by assumption) (by assumption) ?_ | with_reducible refine wpAny_specialOf (by assumption) (by assumption) ?_ | with_reducible refine wpAny_call ?_ | ((with_reducible apply wpAny_ite_false);focus (rfl;done)) | wp_delta))
 refine codeAny_mono (code_set_new_1 v (E:=E) (Q₁:=λobj b=>∃led:Bool,obj=.ref s.heap.objs.size/\b=CT s led) λled=>⟨led,rfl,rfl⟩) λr b hr=>?_;cases r with
 |error e=>exact hr
 |ok fl=>
  cases fl with
  |ret obj=>
   obtain⟨led,rfl,rfl⟩:=hr;have g:(CT s led).TypeIs (.ref s.heap.objs.size) "set":=⟨_,ME _ rfl,rfl⟩;have hli:=PySem.F.called_set.init.lookup;have hbi:=PySem.F.called_set.init.bind (.ref s.heap.objs.size)
   repeat (any_goals (first | with_reducible assumption | with_reducible refine q05 ?_ | with_reducible refine q04 ?_ | with_reducible refine q0X ?_ | with_reducible refine wpAny_of_eq (by assumption) ?_ | with_reducible refine wpAny_isInstance (by assumption) (by assumption) ?_ | with_reducible refine wpAny_specialOf (by assumption) (by assumption) ?_ | with_reducible refine wpAny_call ?_ | ((with_reducible apply wpAny_ite_false);focus (rfl;done)) | wp_delta))
   refine codeAny_mono (hi led g) λd s₂ a=>?_;cases d with
   |error e=>exact a
   |ok fl₂=>
    cases fl₂ with
    |ret r=>
     obtain⟨rfl,h',tk,rfl,i⟩:=a
     repeat (any_goals (first | with_reducible assumption | with_reducible refine q05 ?_ | with_reducible refine q04 ?_ | with_reducible refine q0X ?_ | with_reducible refine wpAny_of_eq (by assumption) ?_ | with_reducible refine wpAny_isInstance (by assumption) (by assumption) ?_ | with_reducible refine wpAny_specialOf (by assumption) (by assumption) ?_ | with_reducible refine wpAny_call ?_ | ((with_reducible apply wpAny_ite_false);focus (rfl;done)) | wp_delta))
     exact h _ _ i
    |_=>exact a.elim
  |_=>exact hr.elim
theorem qz{x:Str}{t:Tok}{Q:Nu}(hh:A.handled=none)(hb:x.cps.size+1<scanBound)
  (h:∀(h':Heap) (tk:Nat),h'.SetOf (strKind prog w) s.heap.objs.size (λk'=>decide (k'∈met (dq x))) (met (dq x)).length ->
   (∀b o,s.heap.get? b=some o->h'.get? b=some o)->Q (.ref s.heap.objs.size) {s with heap:=h',toks:=tk}) :
  wpAny (model prog w) A (call (.type "set") [.str x t]) Q E s:=by
 refine uZ (R:=λh' _=>h'.SetOf (strKind prog w) s.heap.objs.size (λk'=>decide (k'∈met (dq x))) (met (dq x)).length/\∀b o,s.heap.get? b=some o->h'.get? b=some o)
  (λa q=>?_) λh' tk hr=>h h' tk hr.1 hr.2
 refine codeAny_call_builtin PySem.F.called_set.init.plain PySem.F.entry_set_init (check_set_init_1 q ?_);unfold CT at q ⊢;have B:(s.heap.push {cls:=.type "set",dict:=none,data:=.set #[] 0 (.fresh 0 0 a)}).get? s.heap.objs.size=some {cls:=.type "set",dict:=none,data:=.set #[] 0 (.fresh 0 0 a)}:=ME _ rfl;have hsls:=PySem.F.sub_str_set;have hslf:=PySem.F.sub_str_frozenset;have hne:(Value.type "str" == Value.type "dict")=false:=by decide
 unfold Builtin.«set.__init__» noKeywords Builtin.Frozenset.updateFrom;generalize n:pyIter=PI
 wp_walk
 subst n;refine wpAny_pyIter_str λo St W k=>?_;refine q04 (wpAny_runValue ?_);have l:s.heap.objs.size∉[(s.heap.push {cls:=.type "set",dict:=none,data:=.set #[] 0 (.fresh 0 0 a)}).objs.size]:=by
  rw[Heap.size_push];simp only[Mz]
  exact MU (M' _)
 refine EE (knd:=strKind prog w) ((W _ (by simp[hh])).toS) s.heap.objs.size l (dq x) (by simp[dq])
  (λi v ⟨c,u,z,p⟩=>⟨⟨#[c]⟩,by unfold dq;rw[MA,q0G,z];rfl,by rw[p];exact strKind_is _ _ _ _,by rw[p];rfl⟩) hb (x.cps.size-0) 0 _ ⋯ (MZ _) k ?hS0 ?hR
 case hS0=>
  exact SetOf_congr ((setObjOf_fresh (knd:=strKind prog w) a).setOf (Mx _ B) (by unfold scanBound;omega)) (λ_=>rfl) rfl
 case hR=>
  intro r d m;obtain⟨h',C,J,g,j⟩:=r;have G:C=s.gens:=d.gens;have I:J=s.drawn:=d.drawn;have D:j=s.os:=d.os;subst G;subst I;subst D
  show wpAny _ _ _ _ _ _;refine q05 ?_;show wpAny _ _ (ret Value.none) _ _ _;refine q05 ⟨rfl,h',g,rfl,m,λb y e=>?_⟩;have hb:=M4 e;refine d.heap b y ?_ (Mx _ (Mx _ e));simp only[MQ,List.not_mem_nil,or_false,not_or,Heap.size_push];exact⟨MU hb,MU (Nat.lt_succ_of_lt hb)⟩
end
def u_(t:TE):TE:=λσ H Q=>t σ H λx H1=>∃z,x=.str z/\z.cps.size+1<scanBound/\Q (.int (met (dq z)).length) H1
section
variable {X:Cx}{e:Expr}{t:TE}{p p2 pos pos2:Pos}
theorem A2(hc:X.calm=true)(ha:PE X e t)(g1:Gl X "len")(m1:X.mg "len"=none)(g2:Gl X "set")(m2:X.mg "set"=none)
  (he1:autoParam (starEach [.Call (.Name "set" p2) [e] [] pos2] X.env=[(false,eval (.Call (.Name "set" p2) [e] [] pos2) X.env)]) zz0._auto_1)
  (he2:autoParam (starEach [e] X.env=[(false,eval e X.env)]) zz0._auto_1) :
  PE X (.Call (.Name "len" p) [.Call (.Name "set" p2) [e] [] pos2] [] pos) (u_ t):=by
 intro a s σ H Q I h;have k:bootBuiltins "len"=some (.builtin "len"):=by decide +kernel
 have i:bootBuiltins "set"=some (.type "set"):=by decide +kernel
 refine wpAny_Call_Name_kw (eO I g1 m1 k ?_);refine PyProof.Rows.callWith_builtin1 ?_ he1 rfl;rw[he1];show wpAny _ _ (spliced [(false,eval (.Call (.Name "set" p2) [e] [] pos2) X.env)]) _ _ _;refine Calls.spliced_cons ?_;refine wpAny_Call_Name_kw (eO (I.tok _) g2 m2 i ?_);refine PyProof.Rows.callWith_type1 ?_ he2 rfl;rw[he2];show wpAny _ _ (spliced [(false,eval e X.env)]) _ _ _;refine Calls.spliced_cons (b6 (ha a _ σ H _ (I.tok _) h) λu s1 ⟨x,H1,v,g,z,r,c,q⟩=>Calls.spliced_nil ?_);subst r;obtain⟨tk,rfl⟩:=g;refine qz (I.ok.hd hc) c λh' tk' n l=>Calls.spliced_nil ?_;obtain⟨o,j,b,es,ep,tb,hd,_,_,d,m⟩:=n.objOf;have hle:=CQ z.cps.size (dq z) (by simp[dq]);have hb:z.cps.size<4096:=by unfold scanBound at c;omega
 refine call_len_set j b hd m (by rw[d];have:((4096:Nat):Int)<2^63:=nofun;omega) ?_;rw[d];exact⟨.int _,H1,(v.kept (t':=_) l),⟨_,rfl⟩,q⟩
end
abbrev NT:=List (Str×Addr×List Nat)
def vk(t:NT):List (c_×V):=t.map λx=>(Sum.inr x.1,V.ref x.2.1)
def vC(ns:Ny):List V:=ns.map fun(n:Nat)=>V.int (n:Int)
structure dj(H:Hp)(p:Addr)(t:NT):Prop where
 dict:H p=some (.dK (vk t))
 list:∀x∈t,H x.2.1=some (.lst (vC x.2.2))
 apart:(t.map (·.2.1)).Nodup
theorem dj.grow{H':Hp}{t:NT}(N:dj H p t)(k:∀a o,H a=some o->H' a=some o):dj H' p t:=⟨k _ _ N.dict,λx hx=>k _ _ (N.list x hx),N.apart⟩
theorem xM(z:Str):∀t:NT,dQ (vk t) (.inr z)=(t.find? λx=>decide (x.1=z)).map λx=>V.ref x.2.1
 | []=>rfl
 |x::t=>by
  have ih:=xM z t;unfold vk at ih ⊢;rw[M8,List.find?_cons]
  by_cases e:x.1=z
  ·rw[gy (by rw[e])];simp[e]
  ·rw[gL (λh=>e (Sum.inr.inj h)),ih];simp[e]
theorem dj.new{t:NT}(N:dj H p t)(hl:H l=none)(hz:dQ (vk t) (.inr z)=none) :
  dj (aD (aD H l (.lst [])) p (.dK (dF (vk t) (.inr z) (.ref l)))) p (t++[(z,l,[])]):=by
 have d:p≠l:=λe=>by have:=N.dict;rw[e,hl]at this;exact nomatch this
 have c:∀x∈t,x.2.1≠l/\x.2.1≠p:=λx c=>by
  have q:=N.list x c
  constructor
  ·intro e;rw[e,hl]at q;exact nomatch q
  ·intro e;rw[e,N.dict]at q;exact nomatch q
 refine⟨?_,λx h=>?_,?_⟩
 ·rw[ae,C_ _ hz];unfold vk;rw[MN];rfl
 ·rcases MO.mp h with h | h
  ·rw[aq (c x h).2,aq (c x h).1];exact N.list x h
  ·rw[Mz.mp h,aq (Ne.symm d),ae];rfl
 ·rw[MN]
  refine List.nodup_append.mpr ⟨N.apart,by simp,λa i b g=>?_⟩;obtain⟨x,h1,rfl⟩:=Nj.mp i;rw[List.map_singleton]at g;rw[Mz.mp g];exact(c x h1).1
theorem dj.put{t:NT}{i k:Nat}{x:Str×Addr×List Nat}(N:dj H p t)(hi:t[i]?=some x) :
  dj (aD H x.2.1 (.lst (vC (x.2.2++[k])))) p (t.set i (x.1,x.2.1,x.2.2++[k])):=by
 have l:x∈t:=MB hi;have g:p≠x.2.1:=λe=>by have:=N.list x l;rw[<- e,N.dict]at this;exact nomatch this
 have a:i<t.length:=(Mw.mp hi).1;have m:vk (t.set i (x.1,x.2.1,x.2.2++[k]))=vk t:=by
  unfold vk;apply List.ext_getElem?;intro j;rw[MA,MA,List.getElem?_set]
  by_cases e:i=j
  ·subst e;rw[q07 rfl,q07 a,hi];rfl
  ·rw[q06 e]
 have n:(t.set i (x.1,x.2.1,x.2.2++[k])).map (·.2.1)=t.map (·.2.1):=by
  apply List.ext_getElem?;intro j;rw[MA,MA,List.getElem?_set]
  by_cases e:i=j
  ·subst e;rw[q07 rfl,q07 a,hi];rfl
  ·rw[q06 e]
 refine⟨by rw[aq g,m];exact N.dict,λy d=>?_,by rw[n];exact N.apart⟩;obtain⟨j,b⟩:=List.mem_iff_getElem?.mp d;rw[List.getElem?_set]at b
 by_cases e:i=j
 ·rw[q07 e,q07 a]at b
  cases b;exact ae
 ·rw[q06 e]at b
  have c:y.2.1≠x.2.1:=by
   intro q;have h1:(t.map (·.2.1))[i]?=some x.2.1:=by rw[MA,hi];rfl
   have h2:(t.map (·.2.1))[j]?=some x.2.1:=by rw[MA,b];simp[q]
   exact e ((List.getElem?_inj (Mw.mp h1).1 N.apart).mp (h1.trans h2.symm))
  rw[aq c];exact N.list y (MB b)
def iH(t:NT):List (Str×List Nat):=t.map λx=>(x.1,x.2.2)
def b_(m:List (Str×List Nat))(z:Str):List (Str×List Nat):=if z∈m.map (·.1) then m else m++[(z,[])]
theorem Ct{t:NT}{v:V}(h:dQ (vk t) (.inr z)=some v):∃(i:Nat) (x:Str×Addr×List Nat),t[i]?=some x/\x.1=z/\v=.ref x.2.1:=by
 rw[xM]at h;cases a:t.find? (λx=>decide (x.1=z)) with
 |none=>rw[a]at h;exact nomatch h
 |some x=>
  rw[a]at h;have c:V.ref x.2.1=v:=q0S h;obtain⟨i,d⟩:=List.mem_iff_getElem?.mp (List.mem_of_find?_eq_some a);have b:=List.find?_some a;exact⟨i,x,d,of_decide_eq_true b,c.symm⟩
theorem zj(t:NT):(iH t).map (·.1)=t.map (·.1):=by unfold iH;rw[MP];rfl
theorem G_{t:NT}(h:dQ (vk t) (.inr z)=none):¬ z∈(iH t).map (·.1):=by
 intro m;rw[zj]at m;obtain⟨x,a,e⟩:=Nj.mp m;refine BH h (Nj.mpr ⟨(.inr x.1,.ref x.2.1),Nj.mpr ⟨x,a,rfl⟩,?_⟩);show(Sum.inr x.1:c_)=Sum.inr z;rw[e]
theorem dj.setdef{t:NT}{z:Str}{Q:VK}(N:dj H p t)(hl:H l=none)(hn:t.length<sizeLine)
  (h:∀(H':Hp) (t':NT) (i:Nat) (x:Str×Addr×List Nat),dj H' p t'->t'[i]?=some x->x.1=z->iH t'=b_ (iH t) z->(∀y∈t',y∈t\/y.2.1=l)->(∀a o,a≠p->H a=some o->H' a=some o)->Q (.ref x.2.1) H') :
  ∃kvs k,aD H l (.lst []) p=some (.dK kvs)/\V.str z=kV k/\kvs.length<sizeLine/\(∀v,dQ kvs k=some v->Q v (aD H l (.lst []))) /\
   (dQ kvs k=none->Q (.ref l) (aD (aD H l (.lst [])) p (.dK (dF kvs k (.ref l))))):=by
 have hpl:p≠l:=λe=>by have:=N.dict;rw[e,hl]at this;exact nomatch this
 have b:∀a o,H a=some o->aD H l (.lst []) a=some o:=λa o e=>by
  rw[aq (λq=>by rw[q,hl]at e;exact nomatch e)];exact e
 refine⟨vk t,.inr z,b _ _ N.dict,rfl,by unfold vk;rw[My];exact hn,λv m=>?_,λd=>?_⟩
 ·obtain⟨i,x,j,g,rfl⟩:=Ct m
  refine h _ t i x (N.grow b) j g ?_ (λy c=>.inl c) λa o _ e=>b a o e;have n:z∈(iH t).map (·.1):=by rw[zj];exact Nj.mpr ⟨x,MB j,g⟩
  unfold b_;rw[q07 n]
 ·refine h _ (t++[(z,l,[])]) t.length (z,l,[]) (N.new hl d) (by simp) rfl ?_ (λy c=>(MO.mp c).imp id λq=>by rw[Mz.mp q]) λa o r e=>by rw[aq r];exact b a o e
  unfold b_;rw[q06 (G_ d)];unfold iH;rw[MN];rfl
theorem E8{t:NT}{x:Str×Addr×List Nat}(k:Nat):iH (t.set i (x.1,x.2.1,x.2.2++[k]))=(iH t).set i (x.1,x.2.2++[k]):=by
 unfold iH;rw[List.map_set]
theorem ly{m:List (Str×List Nat)}(h:(m.map (·.1)).Nodup):((b_ m z).map (·.1)).Nodup:=by
 unfold b_
 by_cases e:z∈m.map (·.1)
 ·rw[q07 e];exact h
 ·rw[q06 e,MN]
  refine List.nodup_append.mpr ⟨h,by simp,λa d b c=>?_⟩;rw[List.map_singleton]at c;rw[Mz.mp c];exact λq=>e ((show a=z from q)▸d)
section
variable {X:Cx}{K:Nv}{tg:Expr}
theorem qO(hK:X.K=K):dH X (.type "list") (λxs H Q=>∃p ys,xs=[.ref p]/\(aI K H p ys\/cy K H p ys)/\∀l,H l=none->Q (.ref l) (aD H l (.lst ys))):=hK▸bR
end
theorem vY{X:Cx}{e:Expr}{t:TA}{x:Str}{j:Nat}{p apos cpos:Pos}(ha:PA X [e] t)(hline:(apos.endLine==cpos.line)=true)(hs:starEach [e] X.env=[(false,eval e X.env)]) :
  PE X (.Call (.Attribute (.Constant (.str x) j p) "join" apos) [e] [] cpos) (IF X.K "str" (yZ X.K) (tC (.str x)) t):=
 dU PySem.F.plainAttrs_str PySem.F.slot_str_join PySem.F.type_str_join D6 qk ha rfl (by rw[hs];rfl) hline hs rfl
end L2
namespace L2
open PySem PySem.Spec PyProof.Rows
set_option tactic.hygienic true in
theorem tu.out{K:Nv}{bm:NA}{nid:String}(c:tu K C bm nid):t_ K C bm nid:=by
 refine⟨?_⟩;have q:=c.exc;unfold PySem.W.excIn at q;unfold PySem.W.excOut
 revert q
 cases K.lookup C with
 |none=>exact λq=>q
 |some ob=>
  obtain⟨ty,dd,data,sl⟩:=ob;intro q
  split at q
  ·rename_i e
   cases e
   split at q
   ·rename_i hm hs
    simp only[hm,hs];simp only[q0O]at q ⊢;obtain⟨⟨⟨⟨⟨a1,a2⟩,a3⟩,a4⟩,a5⟩,_⟩:=q;exact⟨⟨⟨⟨a1,a2⟩,a3⟩,a4⟩,a5⟩
   ·cases q
  ·cases q
section
variable {X:Cx}{e:Expr}{tx:TX}{i:Nat}{n x:Str}{D:Addr}{bmD:NA}{nD:String}{b₀:Stmt}{suite:List Stmt}{epos pos hpos np:Pos}{ts:Addr->TS}
def tS(K:Nv)(D:Addr)(tx:TX)(i:Nat)(ts:Addr->TS):TS:=λDe σ H=>
 tx σ H (λ_ H1=>De.nx σ H1) (λcls od H'=>∃C bm nid,cls=.ref C/\t_ K C bm nid/\BW K C D/\∀ea,H' ea=none ->
  ts ea {nx:=λσ2 H2=>De.nx (σ2.set i none) H2,rt:=De.rt,bk:=λσ2 H2=>De.bk (σ2.set i none) H2,ct:=λσ2 H2=>De.ct (σ2.set i none) H2} (σ.set i (some (.ref ea))) (aD H' ea (xo ea (.ref C) od)))
theorem yP{cp:Value->Prop}(hN:X.N.Nodup)(hst:X.stack=X.env::X.outer)(hfr:X.env.frame=some X.env.locals)(he:PX (Iv cp X.prog X.w) X e tx)(hi:X.N[i]?=some n)(hk:X.env.kindOf n=some .local)(hgl:Gl X x)(hm:X.mg x=some (.ref D))(cD:t_ X.K D bmD nD)
  (hbase:bmD.contains (.type "BaseException")=true) (hs:∀ea,vb (X.held ea) (b₀::suite) (ts ea))
  (hd:autoParam ((x==("__debug__":Str))=false) zz2._auto_1) (hsw:autoParam (swapsWith e none epos.line X.env=pure false) zz0._auto_1) :
  PS X (.Try [.Expr e epos] [.ExceptHandler (some (.Name x np)) (some n) (b₀::suite) hpos] [] [] pos) (tS X.K D tx i ts):=by
 intro a s σ H De I h;refine wpAny_Try_except ?_;refine wpAny_execs_cons (wpAny_Expr_any ?_ I.quiet hsw);refine b6 (he a s σ H _ _ _ I h ?_) λv s1 ⟨y,H1,z,r1,q1⟩=>?_
 ·rintro H1 s1 ev s' z ⟨ea,cls,od,B,H',rfl,g,O,C,bm,nid,rfl,cC,un,L⟩
  have S:iB cp B (X.env::X.outer) ea (.ref C) od .none s'.heap:=by rw[<- hst];exact g.fl
  refine Fu (by rw[I.ok.frames,hst]) hfr S λh4 d o=>?_;refine oa d λh5 j m=>?_;have Y:=z.caught g.toFly0 (by rw[hst];exact j) (o.trans m) O;refine wpAny_handleBy_cons (codeAny_handlers_test ?_) (by intro q;cases q);refine g8 (Y.held ea) hgl hm ?_ hd;obtain⟨tl,N,nm,q,bs,hdct,sn,sub,ab,col,dd,k0,k1,k2,k3,k5,hC,T,dd1,cd1,sl1,R,r⟩:=cC.obj Y.kIn;obtain⟨tl',N',nm',q',bs',hdct',sn',sub',ab',col',dd',k0',k1',k2',k3',k5',hD,TD,_⟩:=cD.obj Y.kIn;obtain⟨dd2,cd2,sl2,c,b⟩:=un;rw[R]at c;cases c;rw[r]at b;obtain⟨ob,_,M,p,_⟩:=j.there;refine lW hC hD M p (TD.hasType hbase) b (codeAny_handlers_suite_as ?_);refine oa j λh6 U G=>?_;have J6:=z.caught g.toFly0 (by rw[hst];exact U) ((o.trans m).trans G) O;refine li (v:=.ref ea) J6 hN hi (.inl hk) rfl (λZ J7=>?_) (.inr hk);refine q0W (hs ea a Z _ _ _ (J7.held ea) (L ea O)) (λfl s8 w=>?_) λ_ _ f=>f.elim;cases fl with
  |next=>obtain⟨σ',H2,l,q⟩:=w;exact ji (v:=.non) (l.unheld I.ok.hd) hN hi hk λJ k=>⟨_,_,k,q⟩
  |brk=>obtain⟨σ',H2,l,q⟩:=w;exact ji (v:=.non) (l.unheld I.ok.hd) hN hi hk λJ k=>⟨_,_,k,q⟩
  |cont=>obtain⟨σ',H2,l,q⟩:=w;exact ji (v:=.non) (l.unheld I.ok.hd) hN hi hk λJ k=>⟨_,_,k,q⟩
  |ret u=>obtain⟨v,σ',H2,l,rv,q⟩:=w;exact ji (v:=.non) (l.unheld I.ok.hd) hN hi hk λJ k=>⟨v,_,_,k,rv,q⟩
 ·exact wpAny_execs_nil (wpAny_execs_nil ⟨σ,H1,z,q1⟩)
end
end L2
namespace L2
open PySem PySem.Spec PyProof.Rows QL
section
variable {K:Nv}{g:TG}{ti:TT}{te:TE}{σ:St}{H:Hp}{Q:List V->Hp->Prop}{α:Type}
theorem jn{as:List α}{f:α->Option V}{i:Nat}{x:α}(hx:as[i]?=some x):(as.take (i+1)).filterMap f=(as.take i).filterMap f++(f x).toList:=by
 rw[q0E,hx,List.filterMap_append];show _++List.filterMap f [x]=_;cases h:f x<;>simp[h]
theorem xW{as:List α}{f:α->Option V}(i:Nat):((as.take i).filterMap f).length<=as.length:=M9 (List.length_filterMap_le _ _) (by rw[Nf];omega)
theorem jt{as:List α}(f:α->V):as.filterMap (λx=>some (f x))=as.map f:=by induction as with | nil=>rfl | cons x xs ih=>simp
theorem d0{as:List α}{emb:α->V}{f:α->Option V}(S:St->Prop)(h0:S σ)(hl:∀H',ax H H'->aI K H' a (as.map emb))(hn:as.length<=1000000)
  (hs:∀(i:Nat) x,as[i]?=some x->∀σ H' (N1:V->St->Hp->Prop) (N0:St->Hp->Prop),S σ->ax H H'->(∀v σ2 H2,f x=some v->ax H H2->S σ2->N1 v σ2 H2)->(∀σ2 H2,f x=none->ax H H2->S σ2->N0 σ2 H2) ->
   g (emb x) σ H' λσ2 H3=>ti σ2 H3 λb H4=>if b=true then te σ2 H4 λv H5=>N1 v σ2 H5 else N0 σ2 H4)
  (he:∀H',ax H H'->Q (as.filterMap f) H'):fN (AX K a) g ti te σ H Q:=by
 refine dI (xs:=as.map emb) (λi c σ H'=>ax H H'/\c=(as.take i).filterMap f/\i<=as.length/\S σ) ⟨λ_ _ e=>e,rfl,MZ _,h0⟩ ?_ ?_ ?_ ?_ ?_
 ·rintro i c σ H' ⟨_,rfl,_⟩
  have:=xW (as:=as) (f:=f) i;exact aY ⋯
 ·rintro i c σ H' ⟨_,_,h,_⟩
  rw[My];exact h
 ·rintro i c σ H' ⟨j,_⟩
  exact hl _ j
 ·rintro i x c σ H' k ⟨j,rfl,hi,m⟩
  have d:i<as.length:=by have:=(Mw.mp k).1;rwa [My]at this
  rw[MA,Mv d]at k;cases k;have l:as[i]?=some as[i]:=Mv d;refine hs i as[i] l σ H' (λv σ2 H5=>_) (λσ2 H4=>_) m j (λv σ2 H2 hf s2 hS2=>⟨s2,?_,d,hS2⟩) (λσ2 H2 hf s2 hS2=>⟨s2,?_,d,hS2⟩)
  ·rw[jn l,hf];rfl
  ·rw[jn l,hf];simp
 ·rintro c σ H' ⟨j,rfl,_⟩
  have e:(as.take (as.map emb).length).filterMap f=as.filterMap f:=by rw[My,Nd]
  rw[e];exact he _ j
theorem xI{as:List α}{emb:α->V}{f:Nat->α->Option V}(S:St->Prop)(h0:S σ)(hl:∀H',ax H H'->aI K H' a (as.map emb))(hn:as.length<=1000000)
  (hs:∀(i:Nat) x,as[i]?=some x->∀σ H' T (N1:V->St->Hp->Prop) (N0:St->Hp->Prop),S σ->ax H H'->H' T=none->(∀v σ2 H2,f i x=some v->ax H H2->S σ2->N1 v σ2 H2)->(∀σ2 H2,f i x=none->ax H H2->S σ2->N0 σ2 H2) ->
   g (.ref T) σ (aD H' T (.tup [.int (i:Int),emb x])) λσ2 H3=>ti σ2 H3 λb H4=>if b=true then te σ2 H4 λv H5=>N1 v σ2 H5 else N0 σ2 H4)
  (he:∀H',ax H H'->Q (as.zipIdx.filterMap λx=>f x.2 x.1) H'):fN (Iy K a) g ti te σ H Q:=by
 have l:as.zipIdx.length=as.length:=List.length_zipIdx;refine jg (J:=Iy K a) (n:=as.length) (λi c σ H'=>ax H H'/\c=(as.zipIdx.take i).filterMap (λx=>f x.2 x.1)/\i<=as.length/\S σ) ⟨λ_ _ e=>e,rfl,MZ _,h0⟩ ?_ ?_ ?_ ?_ ?_ ?_
 ·rintro i c σ H' ⟨_,rfl,_⟩
  have:=xW (as:=as.zipIdx) (f:=λx=>f x.2 x.1) i;exact aY ⋯
 ·rintro i c σ H' ⟨_,_,h,_⟩
  exact h
 ·rintro c σ H' ⟨j,_⟩
  exact⟨_,hl _ j,by rw[My];exact MY _⟩
 ·rintro i c σ H' d ⟨j,_⟩
  exact⟨_,emb as[i],hl _ j,by rw[MA,Mv d];rfl⟩
 ·rintro i x c σ H' H2 d ⟨j,rfl,hi,q⟩ ⟨T,y,rfl,p,rfl,k⟩
  have m:as[i]?=some as[i]:=Mv d;have k:=k _ (hl _ j);rw[MA,m]at k;cases k;have o:as.zipIdx[i]?=some (as[i],i):=by rw[List.getElem?_zipIdx,m];simp
  refine hs i as[i] m σ H' T (λv σ2 H5=>_) (λσ2 H4=>_) q j p (λv σ2 H2 hf s2 hS2=>⟨s2,?_,d,hS2⟩) (λσ2 H2 hf s2 hS2=>⟨s2,?_,d,hS2⟩)
  ·rw[jn o];simp only[hf];rfl
  ·rw[jn o];simp[hf]
 ·rintro c σ H' ⟨j,rfl,_⟩
  have e:(as.zipIdx.take as.length).filterMap (λx=>f x.2 x.1)=as.zipIdx.filterMap (λx=>f x.2 x.1):=by rw[<- l,Nd]
  rw[e];exact he _ j
theorem mT{n:Nat}{f:Nat->Option V}(S:St->Prop)(h0:S σ)(hn:n<=1000000)
  (hs:∀i,i<n->∀σ H' (N1:V->St->Hp->Prop) (N0:St->Hp->Prop),S σ->ax H H'->(∀v σ2 H2,f i=some v->ax H H2->S σ2->N1 v σ2 H2)->(∀σ2 H2,f i=none->ax H H2->S σ2->N0 σ2 H2) ->
   g (.int (0+(i:Int))) σ H' λσ2 H3=>ti σ2 H3 λb H4=>if b=true then te σ2 H4 λv H5=>N1 v σ2 H5 else N0 σ2 H4)
  (he:∀H',ax H H'->Q ((List.range n).filterMap f) H'):fN (Af 0 n) g ti te σ H Q:=by
 refine j5 (lo:=0) (n:=n) (λi a σ H'=>ax H H'/\a=(List.range i).filterMap f/\i<=n/\S σ) ⟨λ_ _ e=>e,rfl,MZ _,h0⟩ ?_ ?_ ?_ ?_
 ·rintro i a σ H' ⟨_,rfl,c,_⟩
  have:=List.length_filterMap_le f (List.range i);rw[q0J]at this;exact aY ⋯
 ·rintro i a σ H' ⟨_,_,h,_⟩
  exact h
 ·rintro i a σ H' c ⟨d,rfl,_,j⟩
  refine hs i c σ H' (λv σ2 H5=>_) (λσ2 H4=>_) j d (λv σ2 H2 hf s2 hS2=>⟨s2,?_,c,hS2⟩) (λσ2 H2 hf s2 hS2=>⟨s2,?_,c,hS2⟩)
  ·rw[q0M,List.filterMap_append];simp[hf]
  ·rw[q0M,List.filterMap_append];simp[hf]
 ·rintro a σ H' ⟨d,rfl,_⟩
  exact he _ d
theorem zW{r:Ny}{f:Nat->Option V}(S:St->Prop)(h0:S σ)(hn:r.length<=1000000)
  (hs:∀c∈r,∀σ H' (N1:V->St->Hp->Prop) (N0:St->Hp->Prop),S σ->ax H H'->(∀v σ2 H2,f c=some v->ax H H2->S σ2->N1 v σ2 H2)->(∀σ2 H2,f c=none->ax H H2->S σ2->N0 σ2 H2) ->
   g (.str ⟨#[c]⟩) σ H' λσ2 H3=>ti σ2 H3 λb H4=>if b=true then te σ2 H4 λv H5=>N1 v σ2 H5 else N0 σ2 H4)
  (he:∀H',ax H H'->Q (r.filterMap f) H'):fN (Hr (tx r)) g ti te σ H Q:=by
 have d:(tx r).cps.size=r.length:=by show r.toArray.size=_;simp
 refine v3 (x:=tx r) (λi a σ H'=>ax H H'/\a=(r.take i).filterMap f/\i<=r.length/\S σ) ⟨λ_ _ e=>e,rfl,MZ _,h0⟩ ?_ ?_ ?_ ?_
 ·rintro i a σ H' ⟨_,rfl,_⟩
  have:=xW (as:=r) (f:=f) i;exact aY ⋯
 ·rintro i a σ H' ⟨_,_,h,_⟩
  rw[d];exact h
 ·rintro i c a σ H' m ⟨l,rfl,_,n⟩
  have k:r[i]?=some c:=by rw[<- m];show r[i]?=r.toArray[i]?;simp
  have j:=(Mw.mp k).1;refine hs c (MB k) σ H' (λv σ2 H5=>_) (λσ2 H4=>_) n l (λv σ2 H2 hf s2 hS2=>⟨s2,?_,j,hS2⟩) (λσ2 H2 hf s2 hS2=>⟨s2,?_,j,hS2⟩)
  ·rw[jn k,hf];rfl
  ·rw[jn k,hf];simp
 ·rintro a σ H' ⟨l,rfl,_⟩
  have e:(r.take (tx r).cps.size).filterMap f=r.filterMap f:=by rw[d,Nd]
  rw[e];exact he _ l
end
end L2
namespace ThM
open PySem L2
def addNew(ks:NG)(z:Str):List Str:=if z∈ks then ks else ks++[z]
theorem mem_addNew{ks:NG}{y:Str}:y∈addNew ks z↔y∈ks\/y=z:=by
 unfold addNew
 split
 ·rename_i h
  exact⟨.inl,λq=>q.elim id λe=>e▸h⟩
 ·rw[MO,Mz]
def trueD(zs:NG):List (c_×V):=zs.map λz=>(Sum.inr z,V.bl true)
theorem trueD_val(z:Str):∀zs:List Str,(dQ (trueD zs) (.inr z)).isSome=decide (z∈zs)
 | []=>rfl
 |y::zs=>by
  have ih:=trueD_val z zs;unfold trueD at ih ⊢;rw[M8]
  by_cases e:y=z
  ·rw[gy (by rw[e])]
   simp[e]
  ·rw[gL (λq=>e (Sum.inr.inj q)),ih]
   have:¬ z=y:=λq=>e q.symm;simp[this]
theorem trueD_put(zs:NG)(z:Str):dF (trueD zs) (.inr z) (V.bl true)=trueD (addNew zs z):=by
 unfold dF;rw[gC,trueD_val];unfold addNew
 by_cases h:z∈zs
 ·rw[q09 h,q07 rfl,q07 h]
  unfold trueD;rw[MP];refine q0K λy _=>?_;show(if(Sum.inr y:c_)=Sum.inr z then _ else _)=_
  split<;>rfl
 ·rw[q08 h,q06 nofun,q06 h]
  unfold trueD;rw[MN];rfl
theorem trueD_len(zs:NG):(trueD zs).length=zs.length:=by unfold trueD;rw[My]
section
variable {α:Type}(f:List α->List α)
def Jb:Nat->List α->List α
 |0,s=>s
 |n+1,s=>f (Jb n s)
variable {f}
end
abbrev NR:=Str×List Str
def Eo(ks:NG)(r:NR):List Str:=if(∀z∈r.2,z∈ks) then addNew ks r.1 else ks
def Cg(rs:List NR)(ks:NG):List Str:=rs.foldl Eo ks
theorem nd_len{ks ms:NG}(hn:ks.Nodup)(h:∀z∈ks,z∈ms):ks.length<=ms.length:=by
 induction ks generalizing ms with
 |nil=>exact MZ _
 |cons k ks ih=>
  rw[q0b]at hn;have c:=h k q0B;have h1:=ih (ms:=ms.erase k) hn.2 λz b=>by
   have a:z≠k:=λe=>hn.1 (e▸b);exact(List.mem_erase_of_ne a).mpr (h z (MR _ b))
  have h2:=List.length_erase_of_mem c;have h3:=List.length_pos_of_mem c;rw[MM];omega
def F3(rs:List NR):List Str:=Jb (Cg rs) rs.length []
end ThM
namespace ThM
open PySem L2
theorem kJ{y:Str}:∀(zs ks:NG),y∈zs.foldl addNew ks↔y∈ks\/y∈zs
 | [],ks=>by simp
 |z::zs,ks=>by
  rw[List.foldl_cons,kJ zs,mem_addNew,MQ];exact⟨λh=>h.elim (λh=>h.elim .inl λe=>.inr (.inl e)) λh=>.inr (.inr h),λh=>h.elim (λh=>.inl (.inl h)) λh=>h.elim (λe=>.inl (.inr e)) .inr⟩
def BQ(ks:NG)(r:NR):List Str:=if r.1∈ks then r.2.foldl addNew ks else ks
def AF(rs:List NR)(ks:NG):List Str:=rs.foldl BQ ks
def Io(ks:NG)(r:NR):Prop:=r.1∈ks/\∀z∈r.2,z∈ks
noncomputable instance (ks:NG)(r:NR):Decidable (Io ks r):=by unfold Io;infer_instance
def GM(st:Str)(rs:List NR):List Str:=Jb (AF rs) rs.length [st]
def Fz(rs:List NR)(r:NR):Bool:=decide (∀z∈r.2,z∈F3 rs)
def Jp(rs:List NR):List NR:=rs.filter (Fz rs)
def Jt(st:Str)(rs:List NR):List Str:=GM st (Jp rs)
def keep(st:Str)(rs:List NR)(r:NR):Bool:=decide (r.1∈Jt st rs)&&Fz rs r
end ThM
namespace L2
open PySem PySem.Spec PyProof.Rows
section
variable {X:Cx}{body:List Stmt}{h₀:ExceptHandler}{hs:List ExceptHandler}{tb:TS}{pos:Pos}
theorem nW{ta:TE}{f:Str}{K:Nv}(hK:X.K=K)(he:PE X e ta)(hb:attributeBase e f X.env (eval e X.env)=eval e X.env):PE X (.Attribute e f pos) (zV K ta f):=hK▸xS he hb
def wC(xs ys:List V):Bool:=(List.range (min xs.length ys.length)).all (λj=>match xs[j]?,ys[j]? with | some x,some y=>wU x y | _,_=>true)&&xs.length==ys.length
def GR(K:Nv):R2:=λx y H Q=>∃a b xs ys,x=.ref a/\y=.ref b/\cy K H a xs/\cy K H b ys/\xs.all r9=true/\ys.all r9=true/\Q (.bl (wC xs ys)) H
theorem GP(hu:X.A.units+64<cLine):bC X (compareOp .Eq) (GR X.K):=by
 intro pins s σ H x y v u Q I rx ry h;obtain⟨a,b,k,g,rfl,rfl,O,M,U,T,q⟩:=h;cases rx;cases ry
 obtain⟨d,w,G,_⟩:=I.tuple O;obtain⟨c,r,D,_⟩:=I.tuple M;have L:=w.length;have J:=r.length
 have C:=SeqAt.RcAt.tuples (A:=X.A) (s:=s) (e:=λj=>match k[j]?,g[j]? with | some x,some y=>wU x y | _,_=>true) (show s.heap.IsTuple a d.toArray from G) (show s.heap.IsTuple b c.toArray from D) ⋯ (λj S R=>by
  have p:j<d.length:=by simpa using S
  have o:j<c.length:=by simpa using R
  have l:k[j]?=some k[j]:=Mv ⋯;have i:g[j]?=some g[j]:=Mv ⋯;obtain⟨w1,B,n⟩:=w.get l;obtain⟨w2,z,m⟩:=r.get i;rw[Mv p]at B;rw[Mv o]at z;cases B;cases z
  simp only[Nm,l,i];exact gv n m (Nk.mp U _ (MB l)) (Nk.mp T _ (MB i)))
 refine C _ _ _ _ ⟨.bl _,H,I,rfl,?_⟩;rw[MF,MF,<- L,<- J];exact q
end
section
variable {X:Cx}{es:NL}{t:TA}{te:TE}
end
end L2
namespace L2
open PySem PySem.Spec PyProof.Rows
end L2
namespace L2
open PySem PySem.Spec PyProof.Rows
open QL
def FW(K:Nv):List V->Hp->VK->Prop:=λxs H Q=>∃(p:Addr) (bs:List Bool),xs=[.ref p]/\aI K H p (bs.map V.bl)/\Q (.bl (bs.any id)) H
theorem Ac(bs:List Bool):((List.range bs.length).any λi=>(bs[i]?).getD true)=bs.any id:=by
 rw[Bool.eq_iff_iff,List.any_eq_true,List.any_eq_true]
 constructor
 ·rintro⟨i,b,h⟩
  have a:=List.mem_range.mp b;rw[Mv a,q0L]at h;exact⟨_,MG a,h⟩
 ·rintro⟨x,c,h⟩
  obtain⟨i,b,e⟩:=List.getElem_of_mem c;refine⟨i,List.mem_range.mpr b,?_⟩;rw[Mv b,q0L,e];exact h
theorem CA{X:Cx}(hc:X.calm=true):dH X (.builtin "any") (FW X.K):=by
 intro pins s σ H xs us Q I r h;obtain⟨p,bs,rfl,x,q⟩:=h;obtain⟨u,rfl,w⟩:=r.one;cases w;obtain⟨a,m,d,_⟩:=I.list x;have g:p<s.heap.objs.size:=by obtain⟨_,e,_⟩:=d.isList;exact M4 e
 have c:a.length=bs.length:=by rw[<- m.length,My]
 refine call_any_walk (wpAny_pyIter_list d.isList ?_);refine⟨s.heap.objs.size,[s.heap.objs.size,p],[s.heap.objs.size],a.toArray.size,_,_,λi=>(bs[i]?).getD true,rfl,Walks.list (A:=X.A.in1) (I.ok.hd hc) _ p (MU g) a.toArray,
  ⟨⟨_,ME _ rfl,rfl,rfl⟩,d.isList.push _⟩,λi v s' Q' E' B j=>?_,λh' n z=>?_⟩
 ·obtain⟨k,e,rfl⟩:=uc (i:=i) m (by simpa using B)
  dsimp only at j;rw[e,q0L]at j;exact wpAny_truthy_bool j
 ·have e:((List.range a.toArray.size).any λi=>(bs[i]?).getD true)=bs.any id:=by rw[MF,c];exact Ac bs
  rw[e];exact⟨.bl _,H,I.kept (t':=n) λb o l=>z b o (λy=>by rw[Mz.mp y]at l;exact M_ _ (M4 l)) (Mx _ l),rfl,q⟩
theorem Gh:bootBuiltins "any"=some (.builtin "any"):=by decide +kernel
end L2
namespace L2
open PySem PySem.Spec PyProof.Rows QL
def Eb(H H':Hp):Prop:=∀b xs,H b=some (.tup xs)->H' b=some (.tup xs)
theorem wt:∀{ns:List Int} {us:NA},bj (ns.map V.int) us->∃ps:List (Int×Tok),us.toArray=intItems ps.toArray/\ps.map (·.1)=ns
 | [],us,r=>⟨[],by have:=r.zero;subst this;simp[intItems],rfl⟩
 |n::ns,us,r=>by
  cases r with
  |cons h t=>
   obtain⟨tk,rfl⟩:=h;obtain⟨ps,e1,e2⟩:=wt t;refine⟨(n,tk)::ps,?_,by rw[M8,e2]⟩;have:=q0R Array.toList e1;unfold intItems at this ⊢;simp at this ⊢;exact this
section
variable {X:Cx}
theorem AJ(hc:X.calm=true):dH X (.builtin "sum") (λxs H Q=>∃(p:Addr) (ns:List Int),xs=[.ref p]/\aI X.K H p (ns.map V.int)/\Q (.int ns.sum) H):=by
 intro pins s σ H xs us Q I r h;obtain⟨p,ns,rfl,g,q⟩:=h;obtain⟨u,rfl,d⟩:=r.one;cases d;obtain⟨its,c,e,_⟩:=I.list g;obtain⟨a,l,k⟩:=wt c;refine sum_intListG (xs:=a.toArray) (I.ok.hd hc) (by rw[<- l];exact e.isList) λh' b t' i=>?_;have j:preSum (numAt a.toArray) a.toArray.size=ns.sum:=by
  rw[preSum_eq,q0F (by simp),<- k]
 rw[j];exact⟨.int _,H,I.kept (t':=b) i,⟨_,rfl⟩,q⟩
theorem G9:bootBuiltins "sum"=some (.builtin "sum"):=by decide +kernel
end
end L2
namespace L2
open PySem PySem.Spec PyProof.Rows QL aB
theorem IZ{P:Addr->Prop}:(∃p,V.ref a=V.ref p/\P p)=P a:=by simp
theorem Js{a:Int}{P:Int->Prop}:(∃p,V.int a=V.int p/\P p)=P a:=by simp
theorem IX{P:Bool->Prop}:(∃p,V.bl a=V.bl p/\P p)=P a:=by simp
theorem Ja{P:Str->Prop}:(∃p,V.str a=V.str p/\P p)=P a:=by simp
theorem I0{α:Type}{P:Addr->α->Prop}:(∃p,∃x,V.ref a=V.ref p/\P p x) = ∃x,P a x:=by simp
theorem Jj{α:Type}{P:Addr->α->Prop}:(∃p,∃x,[V.ref a]=[V.ref p]/\P p x) = ∃x,P a x:=by simp
theorem Jd{α:Type}{v:V}{P:Addr->α->V->Prop}:(∃p,∃x,∃y,V.ref a=V.ref p/\[v]=[y]/\P p x y) = ∃x,P a x v:=by simp
theorem IV{α β:Type}{P:Addr->Addr->α->β->Prop}:(∃p,∃q,∃x,∃y,V.ref a=V.ref p/\V.ref b=V.ref q/\P p q x y) = ∃x,∃y,P a b x y:=by simp
def IN(i:Nat):TE:=λσ H Q=>match σ[i]? with
 |some (some v)=>Q v H
 |_=>False
def Es(g:Int->Int->V):R2
 | .int i,.int j,H,Q=>Q (g i j) H
 |x,y,H,Q=>Bz g x y H Q
def IJ(C:Int->Int->Prop)(g:Int->Int->V):R2
 | .int i,.int j,H,Q=>C i j/\Q (g i j) H
 |x,y,H,Q=>rI C g x y H Q
def wK(K:Nv):R2
 | .ref p,.int i,H,Q=>∃xs,aI K H p xs/\∃v,je xs i=some v/\Q v H
 |x,y,H,Q=>Bh K x y H Q
def vJ(K:Nv):R2
 | .ref p,.int i,H,Q=>∃xs,cy K H p xs/\∃v,je xs i=some v/\Q v H
 |x,y,H,Q=>xu K x y H Q
theorem Dh:Es g x y H Q=Bz g x y H Q:=by
 unfold Es;split
 ·simp[Bz]
 ·rfl
theorem FE:IJ C g x y H Q=rI C g x y H Q:=by
 unfold IJ;split
 ·simp[rI]
 ·rfl
theorem zK{K:Nv}:wK K x y H Q=Bh K x y H Q:=by
 unfold wK;split
 ·simp[Bh]
 ·rfl
theorem zS{K:Nv}:vJ K x y H Q=xu K x y H Q:=by
 unfold vJ;split
 ·simp[xu]
 ·rfl
theorem EN{i j:Int}{H:Hp}:Es g (.int i) (.int j) H Q=Q (g i j) H:=rfl
theorem GY{i j:Int}{H:Hp}:IJ C g (.int i) (.int j) H Q=(C i j/\Q (g i j) H):=rfl
theorem DR{K:Nv}{i:Int}{H:Hp}:wK K (.ref p) (.int i) H Q = ∃xs,aI K H p xs/\∃v,je xs i=some v/\Q v H:=rfl
theorem DK{K:Nv}{i:Int}{H:Hp}:vJ K (.ref p) (.int i) H Q = ∃xs,cy K H p xs/\∃v,je xs i=some v/\Q v H:=rfl
theorem J1{α β:Type}{f:α->β}{a:α}{l:List α}:List.map f (a::l)=f a::List.map f l:=rfl
theorem Lm{α β:Type}{f:α->β}:List.map f []=[]:=rfl
theorem KI{α:Type}{a:α}{l m:List α}:(a::l)++m=a::(l++m):=rfl
theorem LV{α:Type}{m:List α}:[]++m=m:=rfl
theorem Kt{α:Type}{a:α}{l:List α}:(a::l)[0]?=some a:=rfl
theorem LC{α:Type}{a:α}{l:List α}{n:Nat}:(a::l)[n+1]?=l[n]?:=rfl
theorem Le{α:Type}{a b:α}{l:List α}:(a::l).set 0 b=b::l:=rfl
theorem LO{α:Type}{a b:α}{l:List α}{n:Nat}:(a::l).set (n+1) b=a::l.set n b:=rfl
section
variable {X:Cx}
theorem ak(i:Nat){x:Str}{pos:Pos}(hN:autoParam (X.N[i]?=some x) zz0._auto_1)(hv:autoParam (IG X.env.scope x) zz6._auto_1)(hd:autoParam ((x==("__debug__":Str))=false) zz1._auto_1)
  (hc:autoParam ((x==("__classdict__":Str))=false) zz1._auto_1):PE X (.Name x pos) (IN i):=λpins s σ H Q I h=>pv i hN hv hd hc pins s σ H Q I (by
 unfold IN at h
 split at h
 ·exact⟨_,‹_›,h⟩
 ·exact h.elim)
theorem bC.m0{f:Value->Value->Sem Value}(h:bC X f (Bz g)):bC X f (Es g):=λpins s σ H x y v u Q I a b c=>h pins s σ H x y v u Q I a b (Dh▸c)
theorem bC.m1{f:Value->Value->Sem Value}(h:bC X f (rI C g)):bC X f (IJ C g):=λpins s σ H x y v u Q I a b c=>h pins s σ H x y v u Q I a b (FE▸c)
theorem bF:Hk X (wK X.K):=λe sl pins s σ H x y v u Q I a b c d=>zL e sl pins s σ H x y v u Q I a b (zK▸c) d
theorem aQ:Hk X (vJ X.K):=λe sl pins s σ H x y v u Q I a b c d=>Dg e sl pins s σ H x y v u Q I a b (zS▸c) d
end
inductive TrD:Dt->Prop
 |mk (i:Int) (ds:List Dt):(∀d∈ds,TrD d)->TrD (.tup (.int i::ds))
section
variable {β:Type}{A:Hp->Addr->β->Prop}
def aL(A:Hp->Addr->β->Prop)(H:Hp)(bs:NC)(ys:List β):Prop:=bs.length=ys.length/\∀(i:Nat) b y,bs[i]?=some b->ys[i]?=some y->A H b y
def k9(A:Hp->Addr->β->Prop)(H:Hp)(l:Addr)(ys:List β):Prop:=∃bs:List Addr,H l=some (.lst (bs.map V.ref))/\aL A H bs ys
theorem aL.nil:aL A H [] []:=⟨rfl,λi b y e=>by simp at e⟩
theorem aL.mono{A':Hp->Addr->β->Prop}{bs:NC}{ys:List β}(h:aL A H bs ys)(u:∀b y,b∈bs->y∈ys->A H b y->A' H' b y):aL A' H' bs ys:=⟨h.1,λi b y e1 e2=>u b y (MB e1) (MB e2) (h.2 i b y e1 e2)⟩
theorem aL.snoc{bs:NC}{ys:List β}{y:β}(h:aL A H bs ys)(e:A H b y):aL A H (bs++[b]) (ys++[y]):=by
 refine⟨by rw[MX,MX,h.1];rfl,λi c z a d=>?_⟩
 by_cases g:i<bs.length
 ·rw[MW g]at a
  rw[MW (by rw[<- h.1];exact g)]at d;exact h.2 i c z a d
 ·have ot:i=bs.length:=by
   have:=(Mw.mp a).1;simp at this;omega
  subst ot;rw[MV (MY _),Nat.sub_self]at a;rw[h.1,MV (MY _),Nat.sub_self]at d;cases a;cases d
  exact e
theorem aL.get{bs:NC}{ys:List β}{i:Nat}{b:Addr}(h:aL A H bs ys)(e:bs[i]?=some b):∃y,ys[i]?=some y/\A H b y:=by
 have c:=(Mw.mp e).1;have a:ys[i]?=some (ys[i]'(by rw[<- h.1];exact c)):=Mv _;exact⟨_,a,h.2 i b _ e a⟩
theorem aL.one{H:Hp}{b:Addr}{y:β}(e:A H b y):aL A H [b] [y]:=aL.nil.snoc e
theorem aL.two{H:Hp}{b c:Addr}{y z:β}(e:A H b y)(e2:A H c z):aL A H [b,c] [y,z]:=(aL.one e).snoc e2
theorem aL.zip{bs:NC}{ys:List β}(h:aL A H bs ys):bs.map V.ref=(bs.zip ys).map λx=>V.ref x.1:=by
 have e:=MP (f:=Prod.fst) (g:=V.ref) (l:=bs.zip ys);rw[List.map_fst_zip (by rw[h.1];exact MY _)]at e;exact e
theorem aL.at{bs:NC}{ys:List β}(h:aL A H bs ys){i:Nat}{x:Addr×β}(e:(bs.zip ys)[i]?=some x):ys[i]?=some x.2/\A H x.1 x.2:=by
 obtain⟨b,y⟩:=x;obtain⟨c,a⟩:=List.getElem?_zip_eq_some.mp e;exact⟨a,h.2 i b y c a⟩
end
section
variable {K:Nv}{g:TG}{ti:TT}{te:TE}{σ:St}{H:Hp}{Q:List V->Hp->Prop}{α β:Type}
theorem fz(A:Hp->Addr->β->Prop)(up:∀{H H':Hp} {b:Addr} {y:β},A H b y->ax H H'->A H' b y){a:Addr}{as:List α}{emb:α->V}{ys:List β}(hlen:as.length=ys.length)(S:St->Prop)(h0:S σ)(hl:∀H',ax H H'->aI K H' a (as.map emb))(hn:as.length<=1000000)
  (hs:∀(i:Nat) x y,as[i]?=some x->ys[i]?=some y->∀σ H' (N1:V->St->Hp->Prop) (N0:St->Hp->Prop),S σ->ax H H'->(∀b σ2 H2,A H2 b y->ax H H2->ax H' H2->S σ2->N1 (.ref b) σ2 H2) ->
   g (emb x) σ H' λσ2 H3=>ti σ2 H3 λb H4=>if b=true then te σ2 H4 λv H5=>N1 v σ2 H5 else N0 σ2 H4)
  (he:∀bs H',ax H H'->aL A H' bs ys->Q (bs.map V.ref) H'):fN (AX K a) g ti te σ H Q:=by
 refine dI (xs:=as.map emb) (λi c σ H'=>ax H H'/\(∃bs:List Addr,c=bs.map V.ref/\aL A H' bs (ys.take i))/\i<=as.length/\S σ) ⟨λ_ _ e=>e,⟨[],rfl,aL.nil⟩,MZ _,h0⟩ ?_ ?_ ?_ ?_ ?_
 ·rintro i c σ H' ⟨_,⟨bs,rfl,h⟩,_⟩
  have:=h.1;rw[Nf]at this;rw[My];exact aY ⋯
 ·rintro i c σ H' ⟨_,_,h,_⟩
  rw[My];exact h
 ·rintro i c σ H' ⟨j,_⟩
  exact hl _ j
 ·rintro i x c σ H' l ⟨j,⟨bs,rfl,k⟩,hi,n⟩
  have d:i<as.length:=by have:=(Mw.mp l).1;rwa [My]at this
  rw[MA,Mv d]at l;cases l;have m:ys[i]?=some (ys[i]'⋯):=Mv ⋯;refine hs i as[i] _ (Mv d) m σ H' (λv σ2 H5=>_) (λσ2 H4=>_) n j (λb σ2 H2 hA s2 s3 hS2=>⟨s2,⟨bs++[b],by rw[MN];rfl,?_⟩,d,hS2⟩)
  ·rw[q0E,m]
   exact(k.mono λb y _ _ h=>up h s3).snoc hA
 ·rintro c σ H' ⟨j,⟨bs,rfl,k⟩,_⟩
  have e:ys.take (as.map emb).length=ys:=by rw[My,hlen,Nd]
  rw[e]at k;exact he _ _ j k
end
end L2
namespace L2
open PySem PySem.Spec PyProof.Rows QL PySem.Builtin
section
variable {X:Cx}
def yH(z:Str):Value->Bool
 | .str y _=>y.cps.toList==z.cps.toList
 |_=>false
theorem Ea{t:Tok}(h:yH z (.str y t)=true):y=z:=by
 have h1:y.cps.toList=z.cps.toList:=by simpa[yH]using h
 cases y;cases z
 simp only[Str.mk.injEq];exact Array.toList_inj.mp h1
def tj:V->List V->Hp->VK->Prop:=λx vs H Q=>∃(l:Addr) (ts:NG) (z:Str) (j:Nat),x=.ref l/\vs=[.str z]/\H l=some (.lst (ts.map V.str))/\ts[j]?=some z/\(∀m y,m<j->ts[m]?=some y->y≠z)/\Q (.int (j:Int)) H
theorem AV:Jn X "list.index" tj:=by
 intro pins s σ H x vs v us Q I rx rv h;obtain⟨l,c,z,j,rfl,rfl,J,G,B,q⟩:=h;cases rx;obtain⟨u,rfl,M⟩:=rv.one;obtain⟨t,rfl⟩:=M;obtain⟨L,b,n,r,S,e⟩:=I.lstM J;have hjl:j<c.length:=(Mw.mp G).1;have k:∀(m:Nat) y,c[m]?=some y->∃d,b[m]?=some (.str y d):=by
  intro m y p;obtain⟨w,R,o⟩:=r.get (i:=m) (x:=.str y) (by rw[MA,p];rfl);obtain⟨d,rfl⟩:=o;exact⟨d,R⟩
 have hll:b.length=c.length:=by rw[<- S,My]
 have hsl:=I.lstM J;have O:b.length<=sizeLine:=by
  have:=L;omega
 rw[q0V]at O;refine call_meets F.slot_list_index ⟨_,e,rfl⟩ F.entry_list_index (F.args_list_index_2 _ _)
  (MeetsSeq.list_index l b.toArray n (.str z t) (yH z) (λy p=>?_) j (by rw[MF];omega) ⋯ ?_ ?_) ⟨e,?_⟩
 ·obtain⟨m,C,U⟩:=List.getElem_of_mem (by simpa using p)
  obtain⟨d,a⟩:=k m (c[m]'⋯) (Mv _);rw[Mv C,U]at a
  injection a with a
  subst a;exact PySem.SeqRoads2.EqGives.str _ _ _ _
 ·obtain⟨d,a⟩:=k j z G
  rw[Mv ⋯]at a
  injection a with a
  show yH z b[j]=true;rw[a];simp[yH]
 ·intro m C D
  have g:m<c.length:=by rw[MF]at C;omega
  obtain⟨d,a⟩:=k m (c[m]'g) (Mv _);rw[Mv ⋯]at a
  injection a with a
  show yH z b[m]=false;rw[a];cases T:yH z (.str (c[m]'g) d) with
  |false=>rfl
  |true=>exact q0Q (Ea T) (B m _ D (Mv g))
 ·exact⟨.int _,H,I.tok _,⟨_,rfl⟩,q⟩
end
section
variable {K:Nv}{g:TG}{ti:TT}{te:TE}{σ:St}{H:Hp}{Q:List V->Hp->Prop}{α β:Type}
theorem vP{as:List α}{f:α->Option β}{i:Nat}{x:α}(hx:as[i]?=some x):(as.take (i+1)).filterMap f=(as.take i).filterMap f++(f x).toList:=by
 rw[q0E,hx,List.filterMap_append];show _++List.filterMap f [x]=_;cases h:f x<;>simp[h]
theorem ve(A:Hp->Addr->β->Prop)(up:∀{H H':Hp} {b:Addr} {y:β},A H b y->ax H H'->A H' b y){a:Addr}{as:List α}{emb:α->V}{f:α->Option β}(S:St->Prop)(h0:S σ)(hl:∀H',ax H H'->aI K H' a (as.map emb))(hn:as.length<=1000000)
  (hs:∀(i:Nat) x,as[i]?=some x->∀σ H' (N1:V->St->Hp->Prop) (N0:St->Hp->Prop),S σ->ax H H'->(∀b y σ2 H2,f x=some y->A H2 b y->ax H H2->ax H' H2->S σ2->N1 (.ref b) σ2 H2)->(∀σ2 H2,f x=none->ax H H2->ax H' H2->S σ2->N0 σ2 H2) ->
   g (emb x) σ H' λσ2 H3=>ti σ2 H3 λb H4=>if b=true then te σ2 H4 λv H5=>N1 v σ2 H5 else N0 σ2 H4)
  (he:∀bs H',ax H H'->aL A H' bs (as.filterMap f)->Q (bs.map V.ref) H'):fN (AX K a) g ti te σ H Q:=by
 refine dI (xs:=as.map emb) (λi c σ H'=>ax H H'/\(∃bs:List Addr,c=bs.map V.ref/\aL A H' bs ((as.take i).filterMap f))/\i<=as.length/\S σ) ⟨λ_ _ e=>e,⟨[],rfl,aL.nil⟩,MZ _,h0⟩ ?_ ?_ ?_ ?_ ?_
 ·rintro i c σ H' ⟨_,⟨bs,rfl,h⟩,_⟩
  have:=h.1;have h2:=List.length_filterMap_le f (as.take i);rw[Nf]at h2;rw[My];exact aY ⋯
 ·rintro i c σ H' ⟨_,_,h,_⟩
  rw[My];exact h
 ·rintro i c σ H' ⟨j,_⟩
  exact hl _ j
 ·rintro i x c σ H' l ⟨j,⟨bs,rfl,k⟩,hi,n⟩
  have d:i<as.length:=by have:=(Mw.mp l).1;rwa [My]at this
  rw[MA,Mv d]at l;cases l;have m:as[i]?=some as[i]:=Mv d;refine hs i as[i] m σ H' (λv σ2 H5=>_) (λσ2 H4=>_) n j (λb y σ2 H2 hf hA s2 s3 hS2=>⟨s2,⟨bs++[b],by rw[MN];rfl,?_⟩,d,hS2⟩) (λσ2 H2 hf s2 s3 hS2=>⟨s2,⟨bs,rfl,?_⟩,d,hS2⟩)
  ·rw[vP m,hf]
   exact(k.mono λb y _ _ h=>up h s3).snoc hA
  ·rw[vP m,hf]
   show aL A H2 bs (_++[]);rw[Na];exact k.mono λb y _ _ h=>up h s3
 ·rintro c σ H' ⟨j,⟨bs,rfl,k⟩,_⟩
  have e:(as.take (as.map emb).length).filterMap f=as.filterMap f:=by rw[My,Nd]
  rw[e]at k;exact he _ _ j k
end
end L2
namespace L2
open PySem PySem.Spec PyProof.Rows QL PySem.Builtin PySem.Builtin.Str
theorem i4{H H':Hp}(h:H l=none)(e:aD H l o=H'):ax H H'/\H' l=some o:=by subst e;exact⟨af h,ae⟩
structure Fg(K:Nv)(x qual:Str)(st:Stmt)(f:Addr)(fd:NE)(dT:Addr):Prop where
 ex:∃(oc:Value) (od:NK) (kV doc pm:Value) (an:NK) (cdv ct:Value) (osl:Array (Option Value)),
  fd=PySem.W.fnOf x qual (cZ st) (cI st) (am st) (.ref dT) kV doc pm an cdv ct/\K.lookup f=some ⟨oc,od,.func fd,osl⟩/\PySem.W.codeIn K cdv qual=true
section
variable {P:NF}{w:NJ}{K:Nv}{mg:ND}{base:Heap}
theorem Fg.okX{qual:Str}{st:Stmt}{f dT:Addr}{ps:NG}{sp:Sp}(F:Fg K x qual st f fd dT)(S:az N ps (am st))(len:∀vs H Q E,sp vs H Q E->vs.length=ps.length)
  (hbody:∀(cdv:Value) (A:NH) (outer:List Env) (s:Nz) (H:Hp) (vs:List V) (Q:VK) (E:XK),cO k (A.deeper (envOfC qual (am st) s.heap.objs.size f cdv))->sp vs H Q E ->
   ∃t,vb (iD (j6 P w) P w K mg base N qual (am st) f cdv A outer s H E) (cI st) t/\t {nx:=λ_ H'=>Q .non H',rt:=Q} (start N vs) H):aV P w K mg base (j6 P w) (k+1) f fd ps sp:=by
 obtain⟨oc,od,kV,doc,pm,an,cdv,ct,osl,rfl,c,b⟩:=F.ex;exact DM c b S len λA outer s H vs Q E hr a=>hbody cdv A outer s H vs Q E hr a
end
section
variable {X:Cx}
def HI(K:Nv):R2:=λx y H Q=>∃(a b:Addr) (ss ts:NG),x=.ref a/\y=.ref b/\aI K H a (ss.map V.str)/\aI K H b (ts.map V.str)/\Q (.bl (decide (ss=ts))) H
theorem EZ{ss ts:NG}(h:ss.length=ts.length):(List.range ss.length).all (λj=>decide (ss[j]?=ts[j]?))=decide (ss=ts):=by
 by_cases e:ss=ts
 ·subst e
  rw[q09 rfl,Nk];intro j _;exact q09 rfl
 ·rw[q08 e]
  cases b:(List.range ss.length).all (λj=>decide (ss[j]?=ts[j]?)) with
  |false=>rfl
  |true=>
   refine q0Q (List.ext_getElem? λj=>?_) e
   by_cases a:j<ss.length
   ·exact of_decide_eq_true (Nk.mp b j (List.mem_range.mpr a))
   ·rw[List.getElem?_eq_none ⋯,List.getElem?_eq_none ⋯]
theorem FV(hu:X.A.units+64<cLine):bC X (compareOp .Eq) (HI X.K):=by
 intro pins s σ H x y v u Q I rx ry h;obtain⟨a,b,c,d,rfl,rfl,T,S,q⟩:=h;cases rx;cases ry
 obtain⟨k,z,D,_⟩:=I.list T;obtain⟨g,w,C,_⟩:=I.list S;have O:=z.length;have M:=w.length
 rw[My]at O M
 by_cases G:c.length=d.length
 ·have B:=SeqAt.RcAt.lists (A:=X.A) (s:=s) (e:=λj=>decide (c[j]?=d[j]?)) D.isList C.isList (by simp;omega) ⋯ (λj Y U=>by
   have o:j<k.length:=by simpa using Y
   have n:j<g.length:=by simpa using U
   have r:c[j]?=some (c[j]'⋯):=Mv _;have p:d[j]?=some (d[j]'⋯):=Mv _;obtain⟨w1,L,m⟩:=z.get (i:=j) (x:=.str (c[j]'⋯)) (by rw[MA,r];rfl);obtain⟨w2,J,l⟩:=w.get (i:=j) (x:=.str (d[j]'⋯)) (by rw[MA,p];rfl);rw[Mv o]at L;rw[Mv n]at J;cases L;cases J
   simp only[Nm,r,p];have:=gv (A:=X.A.in1) (s:=s) m l rfl rfl;have Z:∀a b:Str,wU (.str a) (.str b)=decide (some a=some b):=λa b=>by
    show(a==b)=_
    by_cases e:a=b
    ·subst e;simp
    ·rw[q08 (λh=>e (q0S h))];exact beq_eq_false_iff_ne.mpr e
   rw[Z]at this;exact this)
  have R:k.toArray.size=c.length:=by simp;omega
  rw[R,EZ G]at B;exact B _ _ _ _ ⟨.bl _,H,I,rfl,q⟩
 ·rw[q08 (λe=>G (by rw[e]))]at q
  exact SeqAt.RcAt.lists_lengths D.isList C.isList (by simp;omega) ⋯ _ _ _ _ ⟨.bl false,H,I,rfl,q⟩
end
end L2
namespace TS
open PySem PyProof.Rows
section
variable {M:Model}{A:NH}{E:Nu}{J:Shared->Prop}{σ:Type}
def mS(M:Model)(A:NH)(E:Nu)(J:Shared->Prop){α:Type}(m:StateT σ Sem α)(Q:α->σ->Prop)(st:σ):Prop:=
 ∀s,J s->wpAny M A (m.run st) (λr s'=>J s'/\Q r.1 r.2) E s
theorem cr{α:Type}{a:α}{Q:α->σ->Prop}{st:σ}(h:Q a st):mS M A E J (pure a:StateT σ Sem α) Q st:=by
 intro s j;rw[StateT.run_pure];exact q05 ⟨j,h⟩
theorem bD{α β:Type}{m:StateT σ Sem α}{f:α->StateT σ Sem β}{Q:β->σ->Prop}{st:σ}
  (h:mS M A E J m (λa st'=>mS M A E J (f a) Q st') st):mS M A E J (m >>= f) Q st:=by
 intro s j;rw[StateT.run_bind]
 exact q04 (q0W (h s j) (λr c b=>b.2 c b.1) λ_ _ e=>e)
theorem lS{α:Type}{m:StateT σ Sem α}{Q Q':α->σ->Prop}{st:σ}(h:mS M A E J m Q st)(hq:∀a st',Q a st'->Q' a st'):mS M A E J m Q' st:=
 λs j=>q0W (h s j) (λr _ h'=>⟨h'.1,hq _ _ h'.2⟩) λ_ _ e=>e
theorem su{Q:σ->σ->Prop}{st:σ}(h:Q st st):mS M A E J (get:StateT σ Sem σ) Q st:=by
 intro s j;rw[StateT.run_get];exact q05 ⟨j,h⟩
theorem kH{f:σ->σ}{Q:PUnit->σ->Prop}{st:σ}(h:Q ⟨⟩ (f st)):mS M A E J (modify f:StateT σ Sem PUnit) Q st:=by
 intro s j;rw[StateT.run_modify];exact q05 ⟨j,h⟩
theorem yT{α:Type}{m:Sem α}{Q:α->σ->Prop}{st:σ}(h:∀s,J s->wpAny M A m (λa s'=>J s'/\Q a st) E s) :
  mS M A E J (liftM m:StateT σ Sem α) Q st:=by
 intro s j;show wpAny M A ((StateT.lift m:StateT σ Sem α).run st) _ E s;rw[StateT.run_lift];exact q04 (q0W (h s j) (λa s' b=>q05 b) λ_ _ e=>e)
theorem BC{β:Type}(f:Nat->β->StateT σ Sem (ForInStep β))(I:List Nat->β->σ->Prop)(Q:β->σ->Prop)
  (hs:∀x cN b st,I (x::cN) b st->mS M A E J (f x b) (λr st'=>match r with | .done b'=>Q b' st' | .yield b'=>I cN b' st') st)
  (he:∀b st,I [] b st->Q b st):∀(l:Ny) (b:β) (st:σ),I l b st->mS M A E J (forIn l b f) Q st
 | [],b,st,h=>by rw[List.forIn_nil];exact cr (he _ _ h)
 |x::cN,b,st,h=>by
  rw[List.forIn_cons];refine bD (lS (hs x cN b st h) λr st' h'=>?_);cases r with
  |done b'=>exact cr h'
  |yield b'=>exact BC f I Q hs he cN b' st' h'
theorem sh{β:Type}{a b:Nat}{f:Nat->β->StateT σ Sem (ForInStep β)}(I:Nat->β->σ->Prop){Q:β->σ->Prop}
  (hs:∀i c st,a<=i->i<b->I i c st->mS M A E J (f i c) (λr st'=>match r with | .done c'=>Q c' st' | .yield c'=>I (i+1) c' st') st)
  (he:∀c st,I (max a b) c st->Q c st) {c:β} {st:σ} (h:I a c st):mS M A E J (forIn [a:b] c f) Q st:=by
 rw[Std.Legacy.Range.forIn_eq_forIn_range'];have o:([a:b]:Std.Legacy.Range).size=b-a:=by simp[Std.Legacy.Range.size]
 show mS M A E J (forIn (List.range' a ([a:b]:Std.Legacy.Range).size 1) c f) Q st;rw[o];refine BC f (λl c st=>∃n,l.length=n/\∃i,a<=i/\l=List.range' i n 1/\i+n=max a b/\I i c st) Q ?_ ?_ _ c st ⟨b-a,by simp,a,MY _,rfl,⋯,h⟩
 ·rintro x cN c st ⟨n,e,i,d,g,j,k⟩
  cases n with
  |zero=>simp at e
  |succ n=>
   rw[List.range'_succ]at g;obtain⟨rfl,rfl⟩:=List.cons.inj g;refine lS (hs x c st d ⋯ k) λr st' m=>?_;cases r with
   |done c'=>exact m
   |yield c'=>exact⟨n,by simp,x+1,⋯,rfl,⋯,m⟩
 ·rintro c st ⟨n,e,i,d,g,j,k⟩
  simp at e;subst e
  have:i=max a b:=by omega
  subst this;exact he _ _ k
end
section
variable {prog:NF}{w:NJ}{A:NH}{E:Nu}{J:Shared->Prop}{a₀:Array Keyed}{kd:SortKind}{r:Keyed->Nat}
def w_(prog:NF)(w:NJ)(A:NH)(J:Shared->Prop)(a₀:Array Keyed)(kd:SortKind)(r:Keyed->Nat):Prop:=
 ∀x,x∈a₀.toList->∀y,y∈a₀.toList->∀s,J s->wpAny (model prog w) A (keyLt' kd x.1 y.1) (λb s'=>J s'/\b=decide (r x<r y)) (λ_ _=>False) s
theorem Je(C:w_ prog w A J a₀ kd r){x y:Keyed}(hx:x∈a₀.toList)(hy:y∈a₀.toList){st:SortSt}(hk:kindOf st=kd){Q:Option Bool->SortSt->Prop}
  (h:Q (some (decide (r x<r y))) st):mS (model prog w) A E J (lt' x y) Q st:=by
 rw[lt'_eq];refine bD (su ?_);rw[hk];refine bD (yT λs j=>wpAny_attempt (q0W (C x hx y hy s j) (λb s' c=>?_) λ_ _ e=>?_))
 ·obtain⟨a,rfl⟩:=c;exact⟨a,cr h⟩
 ·exact e.elim
theorem Cm{arr:Array Keyed}{i:Nat}{p:Keyed}(hp:arr[i]?=some p){st:SortSt}{Q:Keyed->SortSt->Prop}(h:Q p st):mS (model prog w) A E J (elem' arr i) Q st:=by
 rw[elem'_eq,hp];exact cr h
def zR:Bool->Keyed->Array Keyed->Nat->Nat->Nat->StateT SortSt Sem (Option Nat):=sortPriv% PySem.Builtin.gallop
end
structure MI{α:Type}(le:α->α->Prop)(X Y out rx ry:List α):Prop where
 ex:∃px py,X=px++rx/\Y=py++ry/\out.Perm (px++py)
 so:out.Pairwise le
 ah:∀p,p∈out->∀q,q∈rx++ry->le p q
namespace MI
variable {α:Type}{le:α->α->Prop}{X Y out rx ry:List α}
theorem start(X Y:List α):MI le X Y [] X Y:=⟨⟨[],[],rfl,rfl,List.Perm.refl _⟩,.nil,λp h=>nomatch h⟩
theorem swap(h:MI le X Y out rx ry):MI le Y X out ry rx:=by
 obtain⟨⟨d,c,j,i,g⟩,s,a⟩:=h;exact⟨⟨c,d,i,j,g.trans List.perm_append_comm⟩,s,λp e q b=>a p e q (by rw[MO]at b ⊢;exact b.symm)⟩
theorem len(h:MI le X Y out rx ry):out.length+rx.length+ry.length=X.length+Y.length:=by
 obtain⟨⟨px,py,c,b,a⟩,_,_⟩:=h;have:=a.length_eq;rw[c,b];simp at this ⊢;omega
theorem dW{l:List α}(h:MI le X Y out rx ry)(hp:l.Perm (rx++ry))(hs:l.Pairwise le):(out++l).Pairwise le/\(out++l).Perm (X++Y):=by
 obtain⟨⟨b,py,e,d,c⟩,s,a⟩:=h;refine⟨List.pairwise_append.mpr ⟨s,hs,λp h1 q h2=>a p h1 q (hp.mem_iff.mp h2)⟩,?_⟩;rw[e,d];refine(c.append hp).trans ?_;rw[Nb,Nb];refine List.Perm.append_left b ?_;rw[<- Nb,<- Nb];exact List.perm_append_comm.append_right ry
end MI
abbrev PA:=Array Keyed
abbrev SM:=StateT SortSt Sem
abbrev tE(r:Keyed->Nat):Keyed->Keyed->Prop:=λp q=>r p<=r q
def GZ:Nat->SM Unit:=sortPriv% PySem.Builtin.setMinGallop
abbrev L1:=Option PA×PA×Nat×Nat×Nat×Nat
abbrev L0:=Option PA×PA×Nat×Nat×Nat
theorem dr{α β:Type}{m m':SM α}{f g:α->SM β}(e:m=m')(h:∀x,f x=g x):(m >>= f)=(m' >>= g):=by rw[e,funext h]
theorem lg{α:Type}{c:Prop}[Decidable c]{a b a' b':α}(h:a=a')(k:b=b'):(if c then a else b)=if c then a' else b':=by rw[h,k]
section
variable {prog:NF}{w:NJ}{A:NH}{E:Nu}{J:Shared->Prop}{a₀:Array Keyed}{kd:SortKind}{r:Keyed->Nat}
def bt(r:Keyed->Nat)(left:Bool)(key p:Keyed):Prop:=if left=true then r p<r key else r p<=r key
noncomputable instance (left:Bool)(key p:Keyed):Decidable (bt r left key p):=by unfold bt;infer_instance
theorem GW{arr:PA}{base n t:Nat}(hn:base+n<=arr.toList.length)(ht:t<n):arr[base+t]?=((arr.toList.drop base).take n)[t]?:=by
 rw[List.getElem?_take,q07 ht,List.getElem?_drop,q0G]
def JC(r:Keyed->Nat)(a b z:PA):Prop:=z.toList.Pairwise (tE r)/\z.toList.Perm (a.toList++b.toList)
structure JF(r:Keyed->Nat)(a b o:PA)(i j:Nat):Prop where
 mi:MI (tE r) a.toList b.toList o.toList (a.toList.drop i) (b.toList.drop j)
 hi:i+1<a.toList.length
 hj:j<b.toList.length
def PG(r:Keyed->Nat)(a b:PA)(k:Nat)(z:Option PA)(o:PA)(i j:Nat):Prop:=match z with
 |some z=>JC r a b z
 |none=>JF r a b o i j/\k<=o.size
variable {a b:PA}
end
abbrev H1:=Option PA×Nat×Nat×PA×Nat×Nat
abbrev H2:=Option PA×Nat×Nat×PA×Nat×Nat×Nat
abbrev H0:=Option PA×Nat×Nat×PA×Nat
abbrev GE(a b:PA)(i j:Nat)(o:PA):PA:=a.extract 0 i++b.extract 0 j++o.reverse
abbrev Jz(a b:PA)(i j:Nat)(o:PA):PA:=b.extract 0 j++a.extract 0 i++o.reverse
def IH(a b:PA)(g:Nat)(i j:Nat)(o:PA)(m n:Nat):SM (ForInStep H1):=
 elem' b (j-1) >>= λy=>elem' a (i-1) >>= λx=>lt' y x >>= λt=>match t with
 |some t=>if t=true then elem' a (i-1) >>= λx=>
   if(i-1==0)=true then pure (.done (some (GE a b (i-1) j (o.push x)),i-1,j,o.push x,m+1,0))
   else if m+1≥g then pure (.done (none,i-1,j,o.push x,m+1,0)) else pure (.yield (none,i-1,j,o.push x,m+1,0))
  else elem' b (j-1) >>= λy=>
   if(j-1==1)=true then pure (.done (some (Jz a b i (j-1) (o.push y)),i,j-1,o.push y,0,n+1))
   else if n+1≥g then pure (.done (none,i,j-1,o.push y,0,n+1)) else pure (.yield (none,i,j-1,o.push y,0,n+1))
 |_=>pure (.done (some (GE a b i j o),i,j,o,m,n))
def JH(a b:PA)(i j:Nat)(o:PA)(g m n:Nat):SM (ForInStep H2):=
 elem' a (i-1) >>= λx=>if(i-1==0)=true then pure (.done (some (GE a b (i-1) j (o.push x)),i-1,j,o.push x,g,m,n))
  else if(decide (m<7)&&decide (n<7))=true then pure (.done (none,i-1,j,o.push x,g,m,n)) else pure (.yield (none,i-1,j,o.push x,g,m,n))
def JS(a b:PA)(i j:Nat)(o:PA)(g m n:Nat):SM (ForInStep H2):=
 elem' b (j-1) >>= λy=>if(j-1==1)=true then pure (.done (some (Jz a b i (j-1) (o.push y)),i,j-1,o.push y,g,m,n))
  else elem' a (i-1) >>= λx=>zR true x b 0 (j-1) (j-1-1) >>= λt=>match t with
  |some k=>if j-1-k>0 then
    if(k==1)=true then pure (.done (some (Jz a b i k (o.push y++(b.extract k (j-1)).reverse)),i,k,o.push y++(b.extract k (j-1)).reverse,g,m,j-1-k))
    else if(k==0)=true then pure (.done (some (GE a b i k (o.push y++(b.extract k (j-1)).reverse)),i,k,o.push y++(b.extract k (j-1)).reverse,g,m,j-1-k))
    else JH a b i k (o.push y++(b.extract k (j-1)).reverse) g m (j-1-k)
   else JH a b i (j-1) (o.push y) g m (j-1-k)
  |_=>pure (.done (some (GE a b i (j-1) (o.push y)),i,j-1,o.push y,g,m,n))
def ot(a b:PA)(i j:Nat)(o:PA)(g m n:Nat):SM (ForInStep H2):=
 GZ g >>= λ_=>elem' b (j-1) >>= λy=>zR false y a 0 i (i-1) >>= λt=>match t with
  |some k=>if i-k>0 then
    if(k==0)=true then pure (.done (some (GE a b k j (o++(a.extract k i).reverse)),k,j,o++(a.extract k i).reverse,g,i-k,n))
    else JS a b k j (o++(a.extract k i).reverse) g (i-k) n
   else JS a b i j o g (i-k) n
  |_=>pure (.done (some (GE a b i j o),i,j,o,g,m,n))
section
variable {prog:NF}{w:NJ}{A:NH}{E:Nu}{J:Shared->Prop}{a₀:Array Keyed}{kd:SortKind}{r:Keyed->Nat}{a b:PA}
end
section
variable {prog:NF}{w:NJ}{A:NH}{E:Nu}{J:Shared->Prop}{a₀:Array Keyed}{kd:SortKind}{r:Keyed->Nat}
structure SB(a₀:PA)(kd:SortKind)(st:SortSt):Prop where
 perm:(arrOf st).toList.Perm a₀.toList
 kind:kindOf st=kd
 failed:failedOf st=none
end
abbrev As:=Option (Option Nat)×Nat
abbrev Ds:=Option (Option Nat)×Nat×Nat
def Hv(lo a n:Nat):SM As:=forIn [a:n] ((none,a):As) λ_ s=>ltAt' (lo+s.2) (lo+s.2-1) >>= λt=>match t with
 |some t=>if t=true then pure (.done (none,s.2)) else pure (.yield (none,s.2+1))
 |_=>pure (.done (some none,s.2))
def Fw(lo m n:Nat):SM (Option Nat):=reverseSlice' lo (lo+m) >>= λ_=>Hv lo m n >>= λs=>match s.1 with
 |some z=>pure z
 |none=>pure (some s.2)
def IK(lo m n:Nat):SM Ds:=forIn [m:n] ((none,m,0):Ds) λ_ s=>ltAt' (lo+s.2.1) (lo+s.2.1-1) >>= λt=>match t with
 |some t=>if t=true then
   if s.2.2>0 then reverseSlice' (lo+s.2.1-(s.2.2+1)) (lo+s.2.1) >>= λ_=>pure (.yield (none,s.2.1+1,0)) else pure (.yield (none,s.2.1+1,0))
  else ltAt' (lo+s.2.1-1) (lo+s.2.1) >>= λt=>match t with
   |some t=>if t=true then pure (.done (none,s.2.1,s.2.2)) else pure (.yield (none,s.2.1+1,s.2.2+1))
   |_=>pure (.done (some none,s.2.1,s.2.2))
 |_=>pure (.done (some none,s.2.1,s.2.2))
def Hw(lo m n:Nat):SM (Option Nat):=liftM (rule "list.sort.descending-run") >>= λ_=>IK lo (m+1) n >>= λs=>match s.1 with
 |some z=>pure z
 |none=>if s.2.2>0 then reverseSlice' (lo+s.2.1-(s.2.2+1)) (lo+s.2.1) >>= λ_=>Fw lo s.2.1 n else Fw lo s.2.1 n
def Cl(lo n:Nat):SM (Option Nat):=Hv lo 1 n >>= λs=>match s.1 with
 |some z=>pure z
 |none=>if(s.2==n)=true then pure (some s.2) else if s.2>1 then ltAt' lo (lo+s.2-1) >>= λt=>match t with
   |some t=>if t=true then pure (some s.2) else reverseSlice' lo (lo+s.2) >>= λ_=>Hw lo s.2 n
   |_=>pure none
  else Hw lo s.2 n
theorem l8{β:Type}{rg:Std.Legacy.Range}{c:β}{f g:Nat->β->SM (ForInStep β)}(h:∀x s,f x s=g x s):(forIn rg c f:SM β)=forIn rg c g:=by
 rw[show f=g from funext λx=>funext λs=>h x s]
theorem ud(lo m n:Nat){f:As->SM (Option Nat)}(h:∀s,f s=match s.1 with | some z=>pure z | none=>pure (some s.2)){F:Nat->As->SM (ForInStep As)}
  (hF:∀x s,F x s=(ltAt' (lo+s.2) (lo+s.2-1) >>= λt=>match t with
   |some t=>if t=true then pure (.done (none,s.2)) else pure (.yield (none,s.2+1))
   |_=>pure (.done (some none,s.2)))):(reverseSlice' lo (lo+m) >>= λ_=>(forIn [m:n] ((none,m):As) F:SM As) >>= f)=Fw lo m n:=by
 unfold Fw Hv;exact dr rfl λ_=>dr (l8 hF) h
theorem vN(lo n:Nat):countRun' lo n=Cl lo n:=by
 have a:∀(m:Nat) {G:Ds->SM (Option Nat)} {F:Nat->Ds->SM (ForInStep Ds)},
   (∀s:Ds,G s=match s.1 with
    |some z=>pure z
    |none=>if s.2.2>0 then reverseSlice' (lo+s.2.1-(s.2.2+1)) (lo+s.2.1) >>= λ_=>Fw lo s.2.1 n else Fw lo s.2.1 n) ->
   (∀x s,F x s=(ltAt' (lo+s.2.1) (lo+s.2.1-1) >>= λt=>match t with
    |some t=>if t=true then
      if s.2.2>0 then reverseSlice' (lo+s.2.1-(s.2.2+1)) (lo+s.2.1) >>= λ_=>pure (.yield (none,s.2.1+1,0)) else pure (.yield (none,s.2.1+1,0))
     else ltAt' (lo+s.2.1-1) (lo+s.2.1) >>= λt=>match t with
      |some t=>if t=true then pure (.done (none,s.2.1,s.2.2)) else pure (.yield (none,s.2.1+1,s.2.2+1))
      |_=>pure (.done (some none,s.2.1,s.2.2))
    |_=>pure (.done (some none,s.2.1,s.2.2)))) ->
   ((liftM (rule "list.sort.descending-run"):SM Unit) >>= λ_=>(forIn [m+1:n] ((none,m+1,0):Ds) F:SM Ds) >>= G)=Hw lo m n:=by
  intro m G F b c;unfold Hw IK;exact dr rfl λ_=>dr (l8 c) b
 unfold Cl Hv;refine dr (l8 λx s=>rfl) λs=>?_;obtain⟨z,m⟩:=s;cases z with
 |some z=>rfl
 |none=>
  refine lg rfl (lg (dr rfl λt=>?_) ?_)
  ·cases t with
   |none=>rfl
   |some t=>
    refine lg rfl (dr rfl λ_=>a m (λs=>?_) λx s=>rfl);obtain⟨z,m,q⟩:=s;cases z with
    |some z=>rfl
    |none=>exact lg (dr rfl λ_=>ud lo m n (λs=>by obtain⟨z,m⟩:=s;cases z<;>rfl) λx s=>rfl) (ud lo m n (λs=>by obtain⟨z,m⟩:=s;cases z<;>rfl) λx s=>rfl)
  ·refine a m (λs=>?_) λx s=>rfl
   obtain⟨z,m,q⟩:=s;cases z with
   |some z=>rfl
   |none=>exact lg (dr rfl λ_=>ud lo m n (λs=>by obtain⟨z,m⟩:=s;cases z<;>rfl) λx s=>rfl) (ud lo m n (λs=>by obtain⟨z,m⟩:=s;cases z<;>rfl) λx s=>rfl)
section
variable {prog:NF}{w:NJ}{A:NH}{E:Nu}{J:Shared->Prop}{a₀:Array Keyed}{kd:SortKind}{r:Keyed->Nat}
def Kr(r:Keyed->Nat)(xs:PA)(i:Nat):Nat:=match xs[i]? with
 |some p=>r p
 |none=>0
theorem vL{xs ys:PA}{i j:Nat}(h:xs[i]?=ys[j]?):Kr r xs i=Kr r ys j:=by unfold Kr;rw[h]
def Up(r:Keyed->Nat)(xs:PA)(lo n:Nat):Prop:=∀i j,i<=j->j<n->Kr r xs (lo+i)<=Kr r xs (lo+j)
def Dn(r:Keyed->Nat)(xs:PA)(lo n:Nat):Prop:=∀i j,i<=j->j<n->Kr r xs (lo+j)<=Kr r xs (lo+i)
structure KB(a₀:PA)(kd:SortKind)(lo:Nat)(st₀ st:SortSt):Prop where
 sb:SB a₀ kd st
 pe:pendingOf st=pendingOf st₀
 be:∀i,i<lo->(arrOf st)[i]?=(arrOf st₀)[i]?
theorem SB.size{st:SortSt}(h:SB a₀ kd st):(arrOf st).size=a₀.size:=by simpa using h.perm.length_eq
theorem KB.set{lo:Nat}{st₀ st:SortSt}(h:KB a₀ kd lo st₀ st){xs:PA}(hp:xs.Perm (arrOf st))(hb:∀i,i<lo->xs[i]?=(arrOf st)[i]?):KB a₀ kd lo st₀ (setArr st xs):=
 ⟨⟨(Array.perm_iff_toList_perm.mp hp).trans h.sb.perm,h.sb.kind,h.sb.failed⟩,h.pe,λi hi=>(hb i hi).trans (h.be i hi)⟩
theorem wq(C:w_ prog w A J a₀ kd r){st:SortSt}(B:SB a₀ kd st){i j:Nat}(hi:i<a₀.size)(hj:j<a₀.size){Q:Option Bool->SortSt->Prop}
  (h:Q (some (decide (Kr r (arrOf st) i<Kr r (arrOf st) j))) st):mS (model prog w) A E J (ltAt' i j) Q st:=by
 have a:∀k,k<a₀.size->∃p,(arrOf st)[k]?=some p/\p∈a₀.toList:=λk g=>by
  have b:k<(arrOf st).size:=by rw[B.size];exact g
  exact⟨(arrOf st)[k],getElem?_pos _ k b,B.perm.mem_iff.mp (by simp)⟩
 obtain⟨p,d,m1⟩:=a i hi;obtain⟨q,c,e⟩:=a j hj;rw[ltAt'_eq];refine bD (su (bD (Cm d (bD (Cm c (Je C m1 e B.kind ?_))))));unfold Kr at h;rw[d,c]at h;exact h
theorem lY{xs:PA}{j:Nat}(hj:j<=xs.size)(k:Nat):Kr r (mirror xs i j ((j-i)/2)) k=if i<=k/\k<j then Kr r xs (i+j-1-k) else Kr r xs k:=by
 have e:=getElem?_mirror_all (i:=i) hj k
 by_cases h1:i<=k/\k<j
 ·rw[q07 h1]at e ⊢;exact vL e
 ·rw[q06 h1]at e ⊢;exact vL e
theorem dk{xs:PA}{i j:Nat}(hj:j<=xs.size)(heq:∀k,i<=k->k<j->Kr r xs k=Kr r xs (j-1))(k:Nat):Kr r (mirror xs i j ((j-i)/2)) k=Kr r xs k:=by
 rw[lY hj]
 split
 ·rw[heq _ ⋯ ⋯,heq k ⋯ ⋯]
 ·rfl
theorem zO{lo i j:Nat}{st₀ st:SortSt}(B:KB a₀ kd lo st₀ st)(hi:lo<=i)(hj:j<=a₀.size){Q:Unit->SortSt->Prop}
  (h:KB a₀ kd lo st₀ (setArr st (mirror (arrOf st) i j ((j-i)/2)))->Q () (setArr st (mirror (arrOf st) i j ((j-i)/2)))):mS (model prog w) A E J (reverseSlice' i j) Q st:=by
 rw[reverseSlice'_eq];refine kH (h (B.set (mirror_perm _ _ _ _) λk hk=>?_));rw[getElem?_mirror_all (by rw[B.sb.size];exact hj),q06 ⋯]
theorem FQ(C:w_ prog w A J a₀ kd r){st:SortSt}(B:SB a₀ kd st){lo a n:Nat}{Q:As->SortSt->Prop}(hn:lo+n<=a₀.size)(ha:1<=a)(han:a<=n)(hs:Up r (arrOf st) lo a)
  (h:∀m,a<=m->m<=n->Up r (arrOf st) lo m->(m=n\/Kr r (arrOf st) (lo+m)<Kr r (arrOf st) (lo+m-1))->Q (none,m) st):mS (model prog w) A E J (Hv lo a n) Q st:=by
 unfold Hv;refine sh (I:=λx c st'=>st'=st/\c=(none,x)/\Up r (arrOf st) lo x) ?s ?e ⟨rfl,rfl,hs⟩
 case e=>
  rintro c st' ⟨rfl,rfl,b⟩;rw[show max a n=n by omega]at b ⊢;exact h n han (MY _) b (.inl rfl)
 case s=>
  rintro x c st' p hxn ⟨rfl,rfl,b⟩;dsimp only;refine bD (wq C B ⋯ ⋯ ?_)
  by_cases d:Kr r (arrOf st') (lo+x)<Kr r (arrOf st') (lo+x-1)
  ·simp only[d,decide_true,if_true]
   exact cr (h x p ⋯ b (.inr d))
  ·simp only[d,decide_false,q0Z,if_false]
   refine cr ⟨rfl,rfl,λi j l hj=>?_⟩
   by_cases g:j<x
   ·exact b i j l g
   ·have k:j=x:=by omega
    subst k
    by_cases o:i=j
    ·subst o;exact MY _
    ·have:=b i (j-1) ⋯ ⋯
     rw[show lo+(j-1)=lo+j-1 by omega]at this;omega
theorem Ft(C:w_ prog w A J a₀ kd r){st₀ st:SortSt}{lo m n:Nat}(B:KB a₀ kd lo st₀ st){Q:Option Nat->SortSt->Prop}(hn:lo+n<=a₀.size)(h1:1<=m)(hm:m<=n)(hs:Dn r (arrOf st) lo m)
  (h:∀k st',KB a₀ kd lo st₀ st'->1<=k->k<=n->Up r (arrOf st') lo k->Q (some k) st'):mS (model prog w) A E J (Fw lo m n) Q st:=by
 unfold Fw;have a:lo+m<=(arrOf st).size:=by rw[B.sb.size];omega
 refine bD (zO B (MY _) ⋯ λb=>?_);refine bD (FQ C b.sb hn h1 hm (λi j hij hj=>?_) λk k1 d c _=>cr (h k _ b ⋯ d c));show Kr r (mirror (arrOf st) lo (lo+m) ((lo+m-lo)/2)) (lo+i)<=Kr r (mirror (arrOf st) lo (lo+m) ((lo+m-lo)/2)) (lo+j);rw[lY a,lY a,q07 ⋯,q07 ⋯];have:=hs (m-1-j) (m-1-i) ⋯ ⋯;rw[show lo+(lo+m)-1-(lo+i)=lo+(m-1-i) by omega,show lo+(lo+m)-1-(lo+j)=lo+(m-1-j) by omega];exact this
theorem Iz(C:w_ prog w A J a₀ kd r){st₀ st:SortSt}{lo m n:Nat}(B:KB a₀ kd lo st₀ st){Q:Ds->SortSt->Prop}(hn:lo+n<=a₀.size)(h1:1<=m)(hm:m<=n)(hs:Dn r (arrOf st) lo m)
  (h:∀k q st',KB a₀ kd lo st₀ st'->m<=k->k<=n->Dn r (arrOf st') lo k->q+1<=k->(∀i,k-(q+1)<=i->i<k->Kr r (arrOf st') (lo+i)=Kr r (arrOf st') (lo+k-1))->Q (none,k,q) st') :
  mS (model prog w) A E J (IK lo m n) Q st:=by
 unfold IK;refine sh (I:=λx c st'=>∃q,c=(none,x,q)/\KB a₀ kd lo st₀ st'/\Dn r (arrOf st') lo x/\q+1<=x/\(∀i,x-(q+1)<=i->i<x->Kr r (arrOf st') (lo+i)=Kr r (arrOf st') (lo+x-1))) ?s ?e
  ⟨0,rfl,B,hs,⋯,λi h1 h2=>by congr 1;omega⟩
 case e=>
  rintro c st' ⟨q,rfl,d,a,o,g⟩;rw[show max m n=n by omega]at a o g ⊢;exact h n q st' d hm (MY _) a o g
 case s=>
  rintro x c st' M hxn ⟨q,rfl,d,a,o,g⟩;dsimp only;have S:lo+x<=(arrOf st').size:=by rw[d.sb.size];omega
  have L:∀k,lo+x-(q+1)<=k->k<lo+x->Kr r (arrOf st') k=Kr r (arrOf st') (lo+x-1):=λk k1 k2=>by
   have:=g (k-lo) ⋯ ⋯
   rwa [show lo+(k-lo)=k by omega]at this
  have b:∀{u:PA},(∀k,Kr r u k=Kr r (arrOf st') k)->Kr r (arrOf st') (lo+x)<=Kr r (arrOf st') (lo+x-1)->Dn r u lo (x+1):=by
   intro u O hle i j D hj;rw[O,O]
   by_cases v:j<x
   ·exact a i j D v
   ·have y:j=x:=by omega
    subst y
    by_cases G:i=j
    ·subst G;exact MY _
    ·have:=a i (j-1) ⋯ ⋯
     rw[show lo+(j-1)=lo+j-1 by omega]at this;omega
  refine bD (wq C d.sb ⋯ ⋯ ?_)
  by_cases p:Kr r (arrOf st') (lo+x)<Kr r (arrOf st') (lo+x-1)
  ·simp only[p,decide_true,if_true]
   by_cases l:q>0
   ·rw[q07 l]
    refine bD (zO d ⋯ ⋯ λU=>cr ⟨0,rfl,U,b (dk S L) (q0P p),⋯,λi h1 h2=>by congr 1;omega⟩)
   ·rw[q06 l]
    exact cr ⟨0,rfl,d,b (λ_=>rfl) (q0P p),⋯,λi h1 h2=>by congr 1;omega⟩
  ·simp only[p,decide_false,q0Z,if_false]
   refine bD (wq C d.sb ⋯ ⋯ ?_)
   by_cases R:Kr r (arrOf st') (lo+x-1)<Kr r (arrOf st') (lo+x)
   ·simp only[R,decide_true,if_true]
    exact cr (h x q st' d M ⋯ a o g)
   ·simp only[R,decide_false,q0Z,if_false]
    have T:Kr r (arrOf st') (lo+x)=Kr r (arrOf st') (lo+x-1):=by omega
    refine cr ⟨q+1,rfl,d,b (λ_=>rfl) ⋯,⋯,λi h1 h2=>?_⟩;rw[show lo+(x+1)-1=lo+x by omega]
    by_cases z:i=x
    ·subst z;rfl
    ·rw[T];exact g i ⋯ ⋯
theorem FG(C:w_ prog w A J a₀ kd r){st₀ st:SortSt}{lo m n:Nat}(B:KB a₀ kd lo st₀ st){Q:Option Nat->SortSt->Prop}(hn:lo+n<=a₀.size)(hm:m+1<=n)(hs:Dn r (arrOf st) lo (m+1))
  (h:∀k st',KB a₀ kd lo st₀ st'->1<=k->k<=n->Up r (arrOf st') lo k->Q (some k) st'):mS (model prog w) A E J (Hw lo m n) Q st:=by
 unfold Hw;refine bD (yT λs j=>wpAny_rule ⟨j,?_⟩);refine bD (Iz C B hn ⋯ hm hs λk q st' g o d a hq u=>?_);dsimp only;have l:lo+k<=(arrOf st').size:=by rw[g.sb.size];omega
 by_cases b:q>0
 ·rw[q07 b]
  refine bD (zO g ⋯ ⋯ λv=>Ft C v hn ⋯ d (λi j e p=>?_) h);have c:∀t,lo+k-(q+1)<=t->t<lo+k->Kr r (arrOf st') t=Kr r (arrOf st') (lo+k-1):=λt o d=>by
   have:=u (t-lo) ⋯ ⋯
   rwa [show lo+(t-lo)=t by omega]at this
  show Kr r (mirror (arrOf st') _ _ _) _<=Kr r (mirror (arrOf st') _ _ _) _;rw[dk l c,dk l c];exact a i j e p
 ·rw[q06 b]
  exact Ft C g hn ⋯ d a h
theorem yx(C:w_ prog w A J a₀ kd r){st:SortSt}{lo n:Nat}(B:SB a₀ kd st){Q:Option Nat->SortSt->Prop}(hn:lo+n<=a₀.size)(h1:1<=n)
  (h:∀k st',KB a₀ kd lo st st'->1<=k->k<=n->Up r (arrOf st') lo k->Q (some k) st'):mS (model prog w) A E J (countRun' lo n) Q st:=by
 rw[vN];unfold Cl
 have e:KB a₀ kd lo st st:=⟨B,rfl,λ_ _=>rfl⟩;refine bD (FQ C B hn (MY 1) h1 (λi j c x=>by
  have:i=j:=by omega
  subst this;exact MY _) λm m1 u d g=>?_)
 dsimp only
 by_cases q:m=n
 ·rw[q07 (by rw[q];exact beq_self_eq_true n)]
  exact cr (h m st e m1 u d)
 ·rw[q06 (by simpa using q)]
  have b:=g.resolve_left q
  by_cases y:m>1
  ·rw[q07 y]
   refine bD (wq C B ⋯ ⋯ ?_)
   by_cases hr:Kr r (arrOf st) lo<Kr r (arrOf st) (lo+m-1)
   ·simp only[hr,decide_true,if_true]
    exact cr (h m st e m1 u d)
   ·simp only[hr,decide_false,q0Z,if_false]
    have v:lo+m<=(arrOf st).size:=by rw[B.size];omega
    have all:∀k,lo<=k->k<lo+m->Kr r (arrOf st) k=Kr r (arrOf st) (lo+m-1):=λk k1 k2=>by
     have D:=d 0 (k-lo) ⋯ ⋯;have z:=d (k-lo) (m-1) ⋯ ⋯;rw[show lo+(k-lo)=k by omega]at D z;rw[show lo+(m-1)=lo+m-1 by omega]at z;rw[show lo+0=lo by omega]at D;omega
    refine bD (zO e (MY _) ⋯ λI=>FG C I hn ⋯ (λi j c x=>?_) h);show Kr r (mirror (arrOf st) _ _ _) _<=Kr r (mirror (arrOf st) _ _ _) _;rw[dk v all,dk v all]
    by_cases hjn:j<m
    ·rw[all (lo+i) ⋯ ⋯,all (lo+j) ⋯ ⋯];exact MY _
    ·have o:j=m:=by omega
     subst o
     by_cases a:i=j
     ·subst a;exact MY _
     ·rw[all (lo+i) ⋯ ⋯];exact q0P b
  ·rw[q06 y]
   have G:m=1:=by omega
   subst G;refine FG C e hn ⋯ (λi j c x=>?_) h
   by_cases a:i=j
   ·subst a;exact MY _
   ·have p:i=0:=by omega
    have l:j=1:=by omega
    subst p;subst l
    exact q0P b
theorem sR{xs:PA}{src d:Nat}(hs:src<xs.size)(hd:d<=src)(k:Nat) :
  Kr r (bubble xs src d) k=if k=src-d then Kr r xs src else if src-d<k/\k<=src then Kr r xs (k-1) else Kr r xs k:=by
 have e:=getElem?_bubble hs d hd k
 by_cases h1:k=src-d
 ·rw[q07 h1]at e ⊢;exact vL e
 ·rw[q06 h1]at e ⊢
  by_cases h2:src-d<k/\k<=src
  ·rw[q07 h2]at e ⊢;exact vL e
  ·rw[q06 h2]at e ⊢;exact vL e
theorem HG(C:w_ prog w A J a₀ kd r){st₀ st:SortSt}{lo n ok:Nat}(B:KB a₀ kd lo st₀ st){Q:Bool->SortSt->Prop}(hn:lo+n<=a₀.size)(hok:ok<=n)(hs:Up r (arrOf st) lo ok)
  (h:∀st',KB a₀ kd lo st₀ st'->Up r (arrOf st') lo n->Q true st'):mS (model prog w) A E J (binarySort' lo n ok) Q st:=by
 rw[binarySort'_eq];refine bD (lS (sh (I:=λk c st'=>c=(none,())/\KB a₀ kd lo st₀ st'/\Up r (arrOf st') lo (min k n)) (Q:=λc st'=>c=(none,())/\KB a₀ kd lo st₀ st'/\Up r (arrOf st') lo n) ?s ?e ?i) ?p)
 case p=>
  rintro c st' ⟨rfl,d,b⟩;exact cr (h st' d b)
 case i=>
  refine⟨rfl,B,λi j o G=>?_⟩
  by_cases h1:ok=0
  ·have:i=j:=by omega
   subst this;exact MY _
  ·exact hs i j o ⋯
 case e=>
  rintro c st' ⟨M,d,b⟩;refine⟨M,d,?_⟩
  rwa [show min (max (max ok 1) n) n=n by omega]at b
 case s=>
  rintro k c st' hak hkn ⟨rfl,d,b⟩;rw[show min k n=k by omega]at b;refine bD (lS (sh (I:=λx c a=>a=st'/\∃l u,c=(none,l,u)/\l<=u/\u<=k/\u-l<=k-x /\
    (∀i,i<l->Kr r (arrOf st') (lo+i)<=Kr r (arrOf st') (lo+k))/\(∀i,u<=i->i<k->Kr r (arrOf st') (lo+k)<Kr r (arrOf st') (lo+i)))
   (Q:=λc a=>a=st'/\∃l u,c=(none,l,u)/\l<=k /\
    (∀i,i<l->Kr r (arrOf st') (lo+i)<=Kr r (arrOf st') (lo+k))/\(∀i,l<=i->i<k->Kr r (arrOf st') (lo+k)<Kr r (arrOf st') (lo+i))) ?s2 ?e2 ?i2) ?p2)
  case i2=>exact⟨rfl,0,k,rfl,⋯,⋯,⋯,λi L=>by omega,λi h1 h2=>by omega⟩
  case e2=>
   rintro c a ⟨rfl,l,u,rfl,h1,h2,O,m,g⟩;have:l=u:=by omega
   subst this;exact⟨rfl,l,l,rfl,h2,m,g⟩
  case s2=>
   rintro x c a _ hxk ⟨rfl,l,u,rfl,h1,h2,O,m,g⟩;dsimp only
   by_cases z:l≥u
   ·rw[q07 z]
    have:l=u:=by omega
    subst this;exact cr ⟨rfl,l,l,rfl,h2,m,g⟩
   ·rw[q06 z]
    refine bD (wq C d.sb ⋯ ⋯ ?_)
    by_cases q:Kr r (arrOf a) (lo+k)<Kr r (arrOf a) (lo+(l+u)/2)
    ·simp only[q,decide_true,if_true]
     exact cr ⟨rfl,l,(l+u)/2,rfl,⋯,⋯,⋯,m,λi y D=>MT q (b _ _ y D)⟩
    ·simp only[q,decide_false,q0Z,if_false]
     exact cr ⟨rfl,(l+u)/2+1,u,rfl,⋯,⋯,⋯,λi y=>M9 (b i ((l+u)/2) ⋯ ⋯) (Nat.not_lt.mp q),g⟩
  case p2=>
   rintro c a ⟨rfl,l,u,rfl,h2,m,g⟩;show mS _ _ _ _ (moveDown' (lo+k) (lo+l) >>= λ_=>pure (ForInStep.yield (none,()))) _ _;rw[moveDown'_eq];have v:lo+k<(arrOf a).size:=by rw[d.sb.size];omega
   refine bD (kH (cr ⟨rfl,d.set (bubble_perm _ _ _) λi L=>?_,?_⟩))
   ·rw[getElem?_bubble v _ ⋯,q06 ⋯,q06 ⋯]
   ·rw[show min (k+1) n=k+1 by omega]
    intro i j o G;show Kr r (bubble (arrOf a) (lo+k) (lo+k-(lo+l))) (lo+i)<=Kr r (bubble (arrOf a) (lo+k) (lo+k-(lo+l))) (lo+j);rw[sR v ⋯,sR v ⋯,show lo+k-(lo+k-(lo+l))=lo+l by omega]
    repeat' split
    all_goals first
     | (exfalso;omega)
     |exact MY _
     |exact m _ ⋯
     | (rw[show lo+j-1=lo+(j-1) by omega];exact q0P (g _ ⋯ ⋯))
     | (rw[show lo+i-1=lo+(i-1) by omega,show lo+j-1=lo+(j-1) by omega];exact b _ _ ⋯ ⋯)
     | (rw[show lo+j-1=lo+(j-1) by omega];exact b _ _ ⋯ ⋯)
     |exact b _ _ ⋯ ⋯
theorem Ey{xs:PA}{lo n:Nat}(hz:lo+n<=xs.size)(h:Up r xs lo n):((xs.toList.drop lo).take n).Pairwise (tE r):=by
 rw[List.pairwise_iff_getElem];intro i j g d c;have e:j<n:=by simp at d;omega
 have a:∀k (b:k<((xs.toList.drop lo).take n).length),Kr r xs (lo+k)=r ((xs.toList.drop lo).take n)[k]:=by
  intro k b;unfold Kr;rw[GW (n:=n) (by simpa using hz) (by simp at b;omega),Mv b]
 have:=h i j (q0P c) e;rw[a i g,a j d]at this;exact this
theorem KB.split{lo n:Nat}{st₀ st:SortSt}(B:KB a₀ kd lo st₀ st){u:List Keyed}{v:List Keyed}(e:(arrOf st₀).toList=u++v)(hu:u.length=lo)(hn:lo+n<=a₀.size)(hs:Up r (arrOf st) lo n) :
  ∃x v',(arrOf st).toList=u++(x++v')/\x.length=n/\x.Pairwise (tE r):=by
 have b:lo+n<=(arrOf st).size:=by rw[B.sb.size];exact hn
 refine⟨((arrOf st).toList.drop lo).take n,(arrOf st).toList.drop (lo+n),?_,by simp;omega,Ey b hs⟩;have c:(arrOf st).toList.take lo=u:=by
  apply List.ext_getElem?;intro i
  by_cases a:i<lo
  ·rw[List.getElem?_take,q07 a,q0G,B.be i a,<- q0G,e,MW ⋯]
  ·rw[List.getElem?_take,q06 a,List.getElem?_eq_none ⋯]
 rw[<- List.drop_drop,List.take_append_drop,<- c,List.take_append_drop]
abbrev Pd:=Nat×Nat×Nat
def IB(r:Keyed->Nat):List Pd->List (List Keyed)->Nat->Prop
 | [],rs,_=>rs=[]
 |e::p,rs,k=>∃x rs',rs=x::rs'/\e.1=k/\e.2.1=x.length/\x≠[]/\x.Pairwise (tE r)/\IB r p rs' (k+x.length)
end
def rk(O:KeyOrd)(f:Keyed->O.α)(l:List Keyed)(p:Keyed):Nat:=l.countP λq=>O.blt (f q) (f p)
theorem wP{α:Type}{f g:α->Bool}:∀{l:List α},(∀x,x∈l->f x=true->g x=true)->(∃x,x∈l/\f x=false/\g x=true)->l.countP f<l.countP g
 | [],_,h=>by obtain⟨x,hx,_⟩:=h;exact nomatch hx
 |x::l,h,⟨y,hy,e1,e2⟩=>by
  rw[List.countP_cons,List.countP_cons];have le:l.countP f<=l.countP g:=List.countP_mono_left λx hx=>h x (MR _ hx);rcases MQ.mp hy with rfl | hy
  ·rw[e1,e2];simp;omega
  ·have:=wP (f:=f) (g:=g) (l:=l) (λx hx=>h x (MR _ hx)) ⟨y,hy,e1,e2⟩
   have:=h x (q0B ..);cases hf:f x<;>cases hg:g x<;>simp_all<;>omega
theorem FN{O:KeyOrd}{f:Keyed->O.α}{l:List Keyed}{x:Keyed}(hx:x∈l):O.blt (f x) (f y)=decide (rk O f l x<rk O f l y):=by
 cases h:O.blt (f x) (f y) with
 |true=>
  refine(q09 ?_).symm;exact wP (λz _ a=>O.trans _ _ _ a h) ⟨x,hx,O.irrefl _,h⟩
 |false=>
  refine(q08 (Nat.not_lt.mpr ?_)).symm;refine List.countP_mono_left λz _ a=>?_;rcases O.negTrans _ (f x) _ a with q | q
  ·exact q
  ·rw[h]at q;exact q0Q q nofun
theorem HH{O:KeyOrd}{f:Keyed->O.α}{l:List Keyed}{y:Keyed}(hy:y∈l)(h:rk O f l x<=rk O f l y):O.blt (f y) (f x)=false:=by
 rw[FN (f:=f) (l:=l) hy];exact q08 (Nat.not_lt.mpr h)
theorem EF{h:Heap}{a:Addr}{vs:Array Value}(ho:h.get? a=some (seqObj "list" vs n)):∃e1,(h.update a (Obj.mapSeq λ_=>#[])).get? a=some (seqObj "list" #[] e1):=⟨_,get?_update_seq ho _⟩
def sort1(h:Heap)(a:Addr)(vs:NA):Heap:=((h.update a (Obj.mapSeq λ_=>#[])).push (seqObj "tuple" vs.toArray 0)).push (seqObj "list" #[] 0)
section
variable {prog:NF}{w:NJ}{A:NH}{E:Nu}{s s2:Nz}
abbrev with1(s2:Nz)(vs:NA):Heap:=s2.heap.push (seqObj "list" vs.toArray 0)
theorem ranks_out{O:KeyOrd}{f:Keyed->O.α}{ps:List Keyed}(hp:ps.Perm l)(h:ps.Pairwise (tE (rk O f l))):ps.Pairwise λp q=>O.blt (f q) (f p)=false:=by
 have mem:∀p,p∈ps->p∈l:=λp b=>hp.mem_iff.mp b;clear hp
 induction ps with
 |nil=>exact .nil
 |cons p ps ih=>
  rw[List.pairwise_cons]at h ⊢;exact⟨λq a=>HH (mem q (MR _ a)) (h.1 q a),ih h.2 λq a=>mem q (MR _ a)⟩
end
end TS
namespace TS
open PySem PyProof.Rows PySem.MeetsSeq PySem.MeetsSeq3
open AutoSeq1 (wpAny_loadPart')
abbrev IL(s:Nz)(a:Addr)(xs:Array Value)(n:Nat)(dd:NK)(sl:Array (Option Value)):Prop:=s.heap.get? a=some {cls:=.type "list",dict:=dd,data:=.seq xs n,slots:=sl}
def lexS:List Str->List Str->Bool
 | [],[]=>false
 | [],_::_=>true
 |_::_,[]=>false
 |x::xs,y::ys=>if x==y then lexS xs ys else decide (x.cps.toList<y.cps.toList)
section
variable {prog:NF}{w:NJ}{A:NH}{E:Nu}{s:Nz}
theorem we{x y:Str}{t:Tok}{Q:Nu}(h:Q (.bool (decide (x.cps.toList<y.cps.toList))) s):wpAny (model prog w) A (richCompare .Lt (.str x t) (.str y u)) Q E s:=
 wpAny_richCompare_same (typeIs_str s x t) (typeIs_str s y u) slot_str_lt (call_str_lt ⟨(λq=>nomatch q),h⟩)
end
set_option maxHeartbeats 1600000 in
theorem Fe(l b:Addr)(items items2:Array Value)(n n2:Nat)(dd dd2:NK)(sl sl2:Array (Option Value))(k:Nat) :
  ∀(i:Nat) (ss ts:NG),ss.length+ts.length=k->i<=items.size->i<=items2.size->StrsAre (items.toList.drop i) ss->StrsAre (items2.toList.drop i) ts->Meets (Builtin.«list.__eq__.loop» ⟨[.ref l,.ref b,rawInt i,rawInt 0],[]⟩)
   (λA R s=>IL s l items n dd sl/\IL s b items2 n2 dd2 sl2 /\
    R (.ok (.ret (.bool (lexS ss ts)))) s):=by
 induction k using Nat.strongRecOn with
 |_ k ih=>
 intro i ss ts T S J h1 h2 z w A R s h;obtain⟨hp,g,d,tk,os⟩:=s;obtain⟨o,p,h⟩:=h
 wp_walk using wpAny_loadPart' o,wpAny_loadPart' p
 have Y:((i:Nat):Int).toNat=i:=by simp
 rw[Y];have I:∀{xs:Array Value},xs.toList.drop i=[]->i<=xs.size->xs[i]?=none/\xs.size=i:=fun{xs} e q=>by
  have:=q0R List.length e;simp at this;exact⟨by simp;omega,⋯⟩
 have j:∀{xs:Array Value} {v:Value} {r:NA},xs.toList.drop i=v::r->xs[i]?=some v/\i<xs.size/\xs.toList.drop (i+1)=r:=fun{xs v r} e=>by
  have m:i<xs.toList.length:=by
   have:=q0R List.length e;simp at this ⊢;omega
  have q:=q0T (l:=xs.toList) m;rw[e]at q;obtain⟨O,M⟩:=List.cons.inj q;exact⟨by rw[<- q0G,Mv m,O],by simpa using m,M.symm⟩
 generalize C:items.toList.drop i=v1 at h1;generalize c:items2.toList.drop i=v2 at h2;cases h1 with
 |nil=>
  obtain⟨D,L⟩:=I C S;rw[D];cases h2 with
  |nil=>
   obtain⟨a,G⟩:=I c J;rw[a]
   wp_walk using wpAny_loadPart' o,wpAny_loadPart' p
   show R (.ok (.ret (.bool (decide (items.size<items2.size))))) _;rw[q08 ⋯];exact h
  |cons y u h2'=>
   obtain⟨a,G,_⟩:=j c;rw[a]
   wp_walk using wpAny_loadPart' o,wpAny_loadPart' p
   show R (.ok (.ret (.bool (decide (items.size<items2.size))))) _;rw[q09 ⋯];exact h
 |cons x t h1'=>
  obtain⟨D,L,d1⟩:=j C;rw[D];cases h2 with
  |nil=>
   obtain⟨a,G⟩:=I c J;rw[a]
   wp_walk using wpAny_loadPart' o,wpAny_loadPart' p
   show R (.ok (.ret (.bool (decide (items.size<items2.size))))) _;rw[q08 ⋯];exact h
  |cons y u h2'=>
   obtain⟨a,G,Z⟩:=j c;rw[a];refine q04 (eqBool_str ?_);unfold lexS at h;cases B:x==y with
   |true=>
    rw[B,q07 rfl]at h
    wp_walk
    have U:((i:Int)+1)=((i+1:Nat):Int):=by push_cast;rfl
    rw[U];exact⟨plainId_quiet plain_eq_loop _,codeAny_builtin entry_eq_loop (by
     rw[Around.under_plainId plain_eq_loop _];exact ih _ (by rw[<- T];simp;omega) (i+1) _ _ rfl ⋯ ⋯ (by rw[d1];exact h1') (by rw[Z];exact h2') z w A R _ ⟨o,p,h⟩)⟩
   |false=>
    rw[B,q06 nofun]at h
    wp_walk using wpAny_loadPart' o,wpAny_loadPart' p
    rw[D,a];exact q04 (we (q05 h))
theorem tF(l b:Addr)(items items2:Array Value)(n n2:Nat)(dd dd2:NK)(sl sl2:Array (Option Value))(ss ts:NG)(h1:StrsAre items.toList ss)(h2:StrsAre items2.toList ts) :
  Meets (Builtin.«list.__lt__» ⟨[.ref l,.ref b],[]⟩)
   (λA R s=>IL s l items n dd sl/\IL s b items2 n2 dd2 sl2 /\
    R (.ok (.ret (.bool (lexS ss ts)))) s):=by
 intro a w A R s h;obtain⟨hp,g,d,tk,os⟩:=s;obtain⟨c,e,h⟩:=h
 have f3:=AutoSeq1.sub_list_list
 wp_walk using wpAny_loadPart' c,wpAny_loadPart' e
 exact⟨plainId_quiet plain_eq_loop _,codeAny_builtin entry_eq_loop (by
  rw[Around.under_plainId plain_eq_loop _];exact Fe l b items items2 n n2 dd dd2 sl sl2 _ 0 ss ts rfl (MZ _) (MZ _) h1 h2 a w A R _ ⟨c,e,h⟩)⟩
abbrev cp(x:Str):List Nat:=x.cps.toList
theorem G3(h:cp x=cp y):x=y:=by
 cases x;cases y;exact q0R _ (Array.toList_inj.mp h)
abbrev ks(l:NG):List (List Nat):=l.map cp
theorem lexS_eq:∀(l m:NG),lexS l m=decide (ks l<ks m)
 | [],[]=>by simp[lexS,List.lt_irrefl]
 | [],_::_=>by simp[lexS]
 |_::_,[]=>by simp[lexS]
 |x::l,y::m=>by
  unfold lexS;have e:(ks (x::l)<ks (y::m))↔(cp x<cp y\/cp x=cp y/\ks l<ks m):=List.cons_lt_cons_iff
  by_cases h:x=y
  ·subst h
   rw[q07 (beq_self_eq_true x),lexS_eq l m];refine decide_eq_decide.mpr (e.trans ⟨λq=>?_,λq=>.inr ⟨rfl,q⟩⟩).symm;rcases q with q | q
   ·exact q0Q q (List.lt_irrefl _)
   ·exact q.2
  ·rw[q06 (by simpa using h)]
   refine decide_eq_decide.mpr (e.trans ⟨λq=>?_,λq=>.inl q⟩).symm;rcases q with q | q
   ·exact q
   ·exact q0Q (G3 q.1) h
@[reducible] def LJ:KeyOrd where
 α:=List (List Nat)
 blt a b:=decide (a<b)
 irrefl x:=q08 (List.lt_irrefl x)
 trans x y z p q:=q09 (List.lt_trans (of_decide_eq_true p) (of_decide_eq_true q))
 negTrans a b c h:=by
  simp only[q0a]at *
  by_cases hab:a<b
  ·exact .inl hab
  ·exact .inr (List.lt_of_le_of_lt (List.not_lt.mp hab) h)
 total x y p q:=List.le_antisymm (List.not_lt.mp (of_decide_eq_false q)) (List.not_lt.mp (of_decide_eq_false p))
@[reducible] def ordI:KeyOrd where
 α:=Int×List (List Nat)
 blt a b:=decide (a.1<b.1\/a.1=b.1/\a.2<b.2)
 irrefl a:=by simp[List.lt_irrefl]
 trans a b c h1 h2:=by
  simp only[q0a]at *;rcases h1 with h1 | ⟨h1,h1'⟩<;>rcases h2 with h2 | ⟨h2,h2'⟩
  ·exact .inl ⋯
  ·exact .inl ⋯
  ·exact .inl ⋯
  ·exact .inr ⟨⋯,List.lt_trans h1' h2'⟩
 negTrans a b c h:=by
  simp only[q0a]at *
  by_cases h1:a.1<b.1
  ·exact .inl (.inl h1)
  ·by_cases h2:b.1<c.1
   ·exact .inr (.inl h2)
   ·rcases h with h | ⟨h,h'⟩
    ·omega
    ·by_cases hab:a.2<b.2
     ·exact .inl (.inr ⟨⋯,hab⟩)
     ·exact .inr (.inr ⟨⋯,List.lt_of_le_of_lt (List.not_lt.mp hab) h'⟩)
 total a b h1 h2:=by
  simp only[decide_eq_false_iff_not]at *;have e:a.1=b.1:=by
   have q1:¬ a.1<b.1:=λq=>h1 (.inl q);have q2:¬ b.1<a.1:=λq=>h2 (.inl q);omega
  have e2:a.2=b.2:=List.le_antisymm (List.not_lt.mp λq=>h2 (.inr ⟨e.symm,q⟩)) (List.not_lt.mp λq=>h1 (.inr ⟨e,q⟩));exact Prod.ext e e2
section
variable {prog:NF}{w:NJ}{A:NH}{E:Nu}{s:Nz}
theorem o_:∀{vs:NA} {ss:NG},StrsAre vs ss->vs.length=ss.length
 |_,_,.nil=>rfl
 |_,_,.cons x t h=>by simp[o_ h]
theorem uX:∀{vs:NA} {ss:NG},StrsAre vs ss->∀j (h:j<vs.length),∃t,vs[j]=.str (ss.getD j ⟨#[]⟩) t
 |_,_,.cons x t h,0,_=>⟨t,rfl⟩
 |_,_,.cons x t h,j+1,hj=>by
  obtain⟨t',e⟩:=uX h j (by simpa using hj);exact⟨t',by simpa using e⟩
theorem C7{ss:NG}(hl:s.heap.IsList l xs)(hb:s.heap.IsList b ys)(h1:StrsAre xs.toList ss)(h2:StrsAre ys.toList ts)(hu:A.units<cLine) :
  SeqAt.EqAt A s (.ref l) (.ref b) (decide (ss=ts)):=by
 by_cases d:l=b
 ·subst d
  have:xs=ys:=by
   obtain⟨o,z,_,n,B⟩:=hl;obtain⟨o',c,_,n',g⟩:=hb;rw[z]at c;cases c
   rw[B]at g;injection g
  subst this;have:ss=ts:=by rw[<- h1.strs,<- h2.strs]
  rw[q09 this];exact SeqAt.EqAt.same _
 ·refine SeqAt.EqAt.of_refs d ?_
  have p:=o_ h1;have x:=o_ h2;simp at p x
  by_cases m:xs.size=ys.size
  ·have q:=SeqAt.RcAt.lists (A:=A) (e:=λj=>ss.getD j ⟨#[]⟩==ts.getD j ⟨#[]⟩) hl hb m hu λj k i=>by
    obtain⟨t,v⟩:=uX h1 j (by simpa using k);obtain⟨u,r⟩:=uX h2 j (by simpa using i);rw[Array.getElem_toList]at v r;rw[v,r];exact λprog w E Q y=>eqBool_str y
   have e:((List.range xs.size).all λj=>ss.getD j ⟨#[]⟩==ts.getD j ⟨#[]⟩)=decide (ss=ts):=by
    by_cases a:ss=ts
    ·subst a;simp
    ·rw[q08 a]
     refine Bool.eq_false_iff.mpr λq=>a ?_;refine List.ext_getElem ⋯ λj k i=>?_;have:=Nk.mp q j (List.mem_range.mpr ⋯);rw[q0A,q0A,Mv k,Mv i,q0L,q0L]at this;exact eq_of_beq this
   rw[e]at q;exact q
  ·have a:¬ ss=ts:=λq=>m (by rw[q]at p;omega)
   rw[q08 a];exact SeqAt.RcAt.lists_lengths hl hb (by simpa using m) hu
theorem lt_lists{ss:NG}{Q:Nu}(hl:s.heap.IsList l xs)(hb:s.heap.IsList b ys)(h1:StrsAre xs.toList ss)(h2:StrsAre ys.toList ts)(hu:A.units<cLine)
  (h:Q (.bool (lexS ss ts)) s):wpAny (model prog w) A (richCompare .Lt (.ref l) (.ref b)) Q E s:=by
 obtain⟨⟨cls,p,data,m⟩,i,k,n,j⟩:=id hl;obtain⟨⟨cls2,g,data2,e⟩,a,d,o,c⟩:=id hb;simp only at k j d c;subst k j d c;exact richCompare_meets_room (op:=.Lt) ⟨_,i,rfl⟩ ⟨_,a,rfl⟩ PySem.F.slot_list_lt PySem.F.entry_list_lt (PySem.F.args_list_lt_2 _ _) (tF l b xs ys n o p g m e ss ts h1 h2)
  ⟨i,a,show Value.bool (lexS ss ts)≠Value.notImplemented/\Q (.bool (lexS ss ts)) s from⟨(λx=>nomatch x),h⟩⟩ hu
end
end TS
namespace TS
open PySem PyProof.Rows PySem.MeetsSeq PySem.MeetsSeq3 PySem.W
def Eb(h:Heap)(v:Value)(ss:NG):Prop:=∃a o xs n,v=.ref a/\h.get? a=some o/\o.cls=.type "tuple"/\o.data=.seq xs n/\StrsAre xs.toList ss
def TupI(h:Heap)(v:Value)(k:Int×List Str):Prop:=∃a o n l ys t,v=.ref a/\h.get? a=some o/\o.cls=.type "tuple"/\o.data=.seq #[.int k.1 t,.ref l] n/\h.IsList l ys/\StrsAre ys.toList k.2
section
variable {prog:NF}{w:NJ}{A:NH}{E:Nu}{s:Nz}
theorem EA{Q:Bool->Shared->Prop}(hu:A.units<cLine)(hx:TupI s.heap x k)(hy:TupI s.heap y m)(h:Q (decide (k.1<m.1\/k.1=m.1/\ks k.2<ks m.2)) s) :
  wpAny (model prog w) A (keyLt' (tuples' true) x y) Q E s:=by
 obtain⟨a,o,n,l,xs,t,rfl,p,_,r,j,h1⟩:=hx;obtain⟨a2,o2,n2,l2,ys,u,rfl,d,_,g,b,h2⟩:=hy;refine kat_lt p r d g (kat_cons (wpAny_eqBool_int ?_));cases e:k.1==m.1 with
 |false=>
  refine kat_no (oneLt_int ?_);have ne:¬ k.1=m.1:=λq=>by rw[q]at e;simp at e
  rw[show decide (k.1<m.1\/k.1=m.1/\ks k.2<ks m.2)=decide (k.1<m.1) from decide_eq_decide.mpr ⟨λq=>q.elim id λq=>q0Q q.1 ne,.inl⟩]at h;exact h
 |true=>
  have eq:=eq_of_beq e;have i:Q (lexS k.2 m.2) s:=by
   rw[lexS_eq];rw[show decide (k.1<m.1\/k.1=m.1/\ks k.2<ks m.2)=decide (ks k.2<ks m.2) from decide_eq_decide.mpr ⟨λq=>q.elim (λq=>by omega) And.right,λq=>.inr ⟨eq,q⟩⟩]at h;exact h
  refine kat_yes (kat_cons (C7 j b h1 h2 hu prog w _ _ ?_))
  by_cases c:k.2=m.2
  ·rw[q09 c]
   refine kat_yes (kat_nil ?_);have:lexS k.2 m.2=false:=by rw[c,lexS_eq];exact q08 (List.lt_irrefl _)
   rw[this]at i;exact i
  ·rw[q08 c]
   refine kat_no ?_;rw[oneLt'_eq];simp only[show((true&&(1:Nat)==0)=true)=False by simp,if_false];exact q04 (lt_lists j b h1 h2 hu (wpAny_truthy_bool i))
def keyEnd(h:Heap)(a kS:Addr)(out:Array Value):Heap:=(h.update kS (Obj.mapSeq λ_=>#[])).update a (Obj.mapSeq λ_=>out)
theorem CB{a kS:Addr}{e1:Nat}{keys:Array Value}{vs:NA}{st:SortSt}{P:Fin->Shared->Prop}(hka:a≠kS)(hk:s.heap.get? kS=some (seqObj "list" keys e))(ha:s.heap.get? a=some (seqObj "list" #[] e1))
  (hz:keys.size<=sizeLine) (hz2:(arrOf st).size<=sizeLine) (hf:failedOf st=none) (h:P (.done (.ret .none)) {s with heap:=keyEnd s.heap a kS ((arrOf st).map (·.2))}) :
  wpAny (model prog w) A (ksk_tail a false e1 (.ref kS) st) P E s:=by
 have b:(s.heap.update kS (Obj.mapSeq λ_=>(#[]:Array Value))).get? a=some (seqObj "list" #[] e1):=((Heap.SameBut.update s.heap kS (Obj.mapSeq λ_=>(#[]:Array Value))).2 a hka).trans ha;unfold ksk_tail;dsimp only;refine q04 (listUpdate_at hk rfl ?_ hz (MZ _));refine q04 (wpAny_letGo ?_);refine q04 (seqEpoch_at b rfl ?_);refine q04 (listUpdate_at b rfl ?_ (MZ _) (by rw[q06 nofun,Array.size_map];exact Nat.le_succ_of_le hz2));rw[hf];simp only[bne_self_eq_false,q0Z,if_false];exact q05 h
end
theorem TupI.one{h:Heap}{v:Value}{k m:Int×List Str}(h1:TupI h v k)(h2:TupI h v m):k=m:=by
 obtain⟨a,o,n,l,ys,t,rfl,y,_,B,z,w⟩:=h1;obtain⟨a2,o2,n2,x,zs,u,e,d,_,b,j,r⟩:=h2;cases e;rw[y]at d;cases d
 rw[B]at b;have D:k.1=m.1:=by injection b with q;injection q with q;injection q with q _;injection q
 have C:l=x:=by injection b with q;injection q with q;injection q with _ q;injection q with q _;injection q
 subst C;obtain⟨o3,i,_,n3,p⟩:=z;obtain⟨o4,c,_,n4,g⟩:=j;rw[i]at c;cases c
 rw[p]at g;cases g
 exact Prod.ext D (by rw[<- w.strs,<- r.strs])
open Classical in
def keyI(h:Heap)(p:Keyed):Int×List (List Nat):=if q:∃k,TupI h p.1 k then(q.choose.1,ks q.choose.2) else(0,[])
theorem keyI_eq{p:Keyed}(q:TupI h p.1 k):keyI h p=(k.1,ks k.2):=by
 have a:∃k,TupI h p.1 k:=⟨k,q⟩;unfold keyI;rw[dif_pos a,a.choose_spec.one q]
section
variable {prog:NF}{w:NJ}{A:NH}{E:Nu}{s:Nz}
theorem cmp_I{a₀:PA}(hu:A.units<cLine)(h:∀p,p∈a₀.toList->∃k,TupI s.heap p.1 k):w_ prog w A (· = s) a₀ (tuples' true) (rk ordI (keyI s.heap) a₀.toList):=by
 intro x c y d s' j;cases j;obtain⟨k,b⟩:=h x c;obtain⟨m,a⟩:=h y d;refine EA hu b a ⟨rfl,?_⟩;rw[<- FN (O:=ordI) (f:=keyI s.heap) (y:=y) c,keyI_eq b,keyI_eq a]
theorem kind_I{vs:NA}{Q:SortKind->Shared->Prop}(h:∀v,v∈vs->∃k,TupI s.heap v k)(h0:0<vs.length)(hq:Q (tuples' true) s):wpAny (model prog w) A (keyKind' vs.toArray) Q E s:=by
 have:∃fs,KatTups s.heap vs fs/\fs.length=vs.length/\∀v,v∈fs->∃x t,v=Value.int x t:=by
  clear h0 hq
  induction vs with
  |nil=>exact⟨[],trivial,rfl,λv b=>nomatch b⟩
  |cons v vs ih=>
   obtain⟨fs,t,l,q⟩:=ih λu hu=>h u (MR _ hu);obtain⟨k,a,o,n,ll,ys,c,rfl,d,g,e,hl,hs⟩:=h v (q0B ..);refine⟨.int k.1 c::fs,KatTups.cons d g e rfl t,by simp[l],λu hu=>?_⟩;rcases MQ.mp hu with rfl | hu
   ·exact⟨_,_,rfl⟩
   ·exact q u hu
 obtain⟨fs,t,l,q⟩:=this;refine kat_kind (T:=.type "int") t ⋯ (λv b=>?_) (by rfl) hq;obtain⟨x,c,rfl⟩:=q v b;exact .now
end
end TS
namespace L2
open PySem PySem.Spec PyProof.Rows
theorem vx{α β:Type}{f:α->β}{l l':List β}(h:l.Perm l'):∀m:List α,l'=m.map f->∃m':List α,m'.Perm m/\l=m'.map f:=by
 induction h with
 |nil=>intro m e;exact⟨m,List.Perm.refl _,e⟩
 |cons x _ ih=>
  intro m e;cases m with
  |nil=>exact nomatch e
  |cons y m=>
   obtain⟨d,c⟩:=List.cons.inj e;obtain⟨m',p,q⟩:=ih m c;exact⟨y::m',p.cons y,by rw[q,d];rfl⟩
 |swap x y l=>
  intro m e
  match m,e with
  |a::b::m,e=>
   obtain⟨d,c⟩:=List.cons.inj e;obtain⟨r,o⟩:=List.cons.inj c;exact⟨b::a::m,List.Perm.swap a b m,by rw[d,r,o];rfl⟩
 |trans _ _ ih1 ih2=>
  intro m e;obtain⟨m1,k,i⟩:=ih2 m e;obtain⟨n,j,g⟩:=ih1 m1 i;exact⟨n,j.trans k,g⟩
theorem At{h:Heap}{a b:Addr}{o:Obj}(hb:h.get? b=some o)(hne:b≠a):(TS.sort1 h a vs).get? b=some o:=by
 unfold TS.sort1;refine Mx _ (Mx _ ?_);rw[Heap.get?_update_ne _ _ _ _ hne];exact hb
def HU(K:Nv)(H:Hp)(x:V)(k:Int×List Str):Prop:=∃a l,x=.ref a/\cy K H a [.int k.1,.ref l]/\aI K H l (k.2.map V.str)
section
variable {X:Cx}
theorem Inv.pair{pins:Nw}{σ:St}{H:Hp}{s:Nz}(I:Inv X pins σ H s){x:V}{k:Int×List Str}{u:Value}(h:HU X.K H x k)(r:bx x u):TS.TupI s.heap u k:=by
 obtain⟨a,l,rfl,e,i⟩:=h;obtain rfl:u=Value.ref a:=r;obtain⟨its,b,⟨o,g,m,n,j⟩,_⟩:=I.tuple e;obtain⟨js,c,d,_⟩:=I.list i;cases b with
 |cons q1 b=>
  cases b with
  |cons q2 b=>
   cases b;obtain⟨t,rfl⟩:=q1;obtain rfl:=q2;exact⟨a,o,n,l,_,t,rfl,g,m,j,d.isList,by simpa using dD c⟩
abbrev kI(k:Int×List Str):Int×List (List Nat):=(k.1,TS.ks k.2)
end
@[reducible] def L_:KeyOrd where
 α:=Int
 blt a b:=decide (a<b)
 irrefl a:=by simp
 trans a b c h1 h2:=by simp only[q0a]at *;omega
 negTrans a b c h:=by simp only[q0a]at *;omega
 total a b h1 h2:=by simp only[decide_eq_false_iff_not]at *;omega
end L2
namespace TS
open PySem PyProof.Rows PySem.W
section
variable {prog:NF}{w:NJ}{A:NH}{E:Nu}{s:Nz}{T:String}{r d:Addr}{n:Nat}{P:Nat->Value->Prop}{OK:Heap->Prop}
theorem collect_src{Q:List Value->Shared->Prop}(K:KdlSrc prog w T r d n P OK)(hh:A.handled=none)(hok:OK s.heap)(hn:n<=sizeLine)
  (h:∀h' tk (acc':Array Value),(∀b o,s.heap.get? b=some o->h'.get? b=some o)->ItemsOf P acc' n->Q acc'.toList {s with heap:=h',toks:=tk}) :
  wpAny (model prog w) A (collect (.ref r)) Q E s:=by
 have l:=K.there _ hok;unfold collect;refine q04 (wpAny_runValue (codeAny_builtin entry_proto_collect' (show wpAny _ _ (do again (.builtin "list.__iadd__" ⟨[<- newList [],.ref r],[]⟩)) _ _ s from q04 (wpAny_newList (q05 ⟨Code.quiet_builtin _ (by decide +kernel),codeAny_builtin entry_list_iadd' ?_⟩)))));show wpAny _ _ (Builtin.List.listExtendWith (.ref s.heap.objs.size) (.ref r) (.ref s.heap.objs.size)) _ _ {s with heap:=s.heap.push (seqObj "list" #[] 0)};rw[Around.under_plainId (show plainId "list.__iadd__"=true by decide +kernel) _];refine q0W (kdl_extend (s:={s with heap:=s.heap.push (seqObj "list" #[] 0)}) (R:=λc i=>c=.ok (.ret (.ref s.heap.objs.size))/\∃h' tk acc' k,i={s with heap:=h',toks:=tk}/\(∀b o,s.heap.get? b=some o->h'.get? b=some o) /\
   h'.get? s.heap.objs.size=some {cls:=.type "list",dict:=none,data:=.seq acc' k,slots:=#[]}/\ItemsOf P acc' n) K hh (K.keep _ _ hok λb _ o e=>Mx _ e) s.heap.objs.size (Nat.ne_of_gt l.1) (Nat.ne_of_gt l.2) (.ref s.heap.objs.size) 0 (ME _ rfl)
  (λh' tk acc' k m j g=>⟨rfl,h',tk,acc',k,rfl,λb o q=>m b o (MU (M4 q)) (Mx _ q),j,g⟩) hn) (λdW i p=>?_) λe i z=>?_
 ·have u:∀(c:Result) (i:Nz),(c=.ok (.ret (.ref s.heap.objs.size))/\∃h' tk acc' k,i={s with heap:=h',toks:=tk}/\(∀b o,s.heap.get? b=some o->h'.get? b=some o) /\
    h'.get? s.heap.objs.size=some {cls:=.type "list",dict:=none,data:=.seq acc' k,slots:=#[]}/\ItemsOf P acc' n) ->
    match c with
    |Except.ok (Flow.ret v)=>wpAny (model prog w) A (match v with
      |Value.ref a=>do
       let o <- load a
       match o.data with
        |Data.seq xs epoch=>pure xs.toList
        |x=>unsupported "internal:collect"
      |x=>unsupported "internal:collect") Q E i
    |Except.ok a=>False
    |Except.error e=>E e i:=by
   rintro c i ⟨rfl,h',tk,acc',k,rfl,m,j,g⟩;exact q04 (wpAny_load j (q05 (h h' tk acc' m g)))
  cases dW with
  |done f=>exact u _ _ p
  |again k=>exact⟨p.1,codeAny_mono p.2 λc y hr=>u c y hr⟩
 ·exact nomatch z.1
end
section
variable {prog:NF}{w:NJ}{A:NH}{E:Nu}{s:Nz}
def KeyRun(prog:NF)(w:NJ)(A:NH)(E:Nu)(q:Addr)(Q:Nu)(vs:NA)(s2:Nz):Prop:=
 vs.length<=sizeLine/\∀e1,((with1 s2 vs).update s2.heap.objs.size (Obj.mapSeq λ_=>(#[]:Array Value))).get? s2.heap.objs.size=some (seqObj "list" #[] e1)->∀kS,kS=(with1 s2 vs).objs.size+1 ->
   ∃(I:Nat->Array Value->Shared->Prop),I 0 #[] {s2 with heap:=sort1 (with1 s2 vs) s2.heap.objs.size vs} /\
  (∀i kA s',I i kA s'->kA.size=i/\s'.heap.get? s2.heap.objs.size=some (seqObj "list" #[] e1)/\∃e,s'.heap.get? kS=some (seqObj "list" kA e)) /\
  (∀i x kA s',vs[i]?=some x->I i kA s'->wpAny (model prog w) A.in1.in1 (call (.ref q) [x]) (λv s3=>(∃e,s3.heap.get? kS=some (seqObj "list" kA e))/\I (i+1) (kA.push v) {s3 with heap:=s3.heap.update kS (Obj.mapSeq (·.push v))}) (λ_ _=>False) s') /\
  (∀keys s',I vs.length keys s'->∃(kd:SortKind) (r:Keyed->Nat),(2<=vs.length->∀(Q:SortKind->Shared->Prop),Q kd s'->wpAny (model prog w) A.in1.in1 (keyKind' keys) Q E s')/\(2<=vs.length->w_ prog w A.in1.in1 (· = s') (keys.zip vs.toArray) kd r) /\
   ∀ps:List Keyed,ps.Perm (keys.toList.zip vs)->ps.Pairwise (tE r)->Q (.ref s2.heap.objs.size) {s' with heap:=keyEnd s'.heap s2.heap.objs.size kS (ps.map (·.2)).toArray})
end
end TS
namespace L2
open PySem PySem.Spec PyProof.Rows QL
abbrev vG(p a:Addr):HO:=.ext λh=>h.IsValuesView p a
section
variable {X:Cx}{pins:Nw}{σ:St}{H:Hp}{s:Nz}{h':Heap}
theorem Inv.adopt{t':Nat}{a:Addr}(I:Inv X pins σ H s)(k:∀b u,b≠a->s.heap.get? b=some u->h'.get? b=some u)(hn:H a=none)(hL:a≠X.env.locals)
  (h1:X.s₀.heap.objs.size<=a) (h2:∀x c,X.env.cells.lookup x=some c->c≠a) (h3:∀p∈X.pn++pins,p.1≠a) (new:bU X.prog X.w (aD H a o) h' a o):Inv X pins σ (aD H a o) {s with heap:=h',toks:=t' }:=by
 have i:∀b u,H b=some u->b≠a:=λb u e z=>by rw[z,hn]at e;cases e
 have g:∀b u,H b=some u->aD H a o b=some u:=λb u e=>by rw[aq (i b u e)];exact e
 refine I.step (g':=s.gens) (d':=s.drawn) (ch:=[a]) (λb j=>?_) (λb o _ _ d e _=>k b o (λz=>d (by simp[z])) e) (λb o _ _ d e _=>⟨o.slots,k b o (λz=>d (by simp[z])) e⟩) (λb _ d _ n=>by rw[aq (λz=>d (by simp[z]))];exact n)
  (λb o d e=>⟨o,k b o (λz=>d (by simp[z])) e⟩) (λb l e=>g _ _ e) (λb _ _ e=>g _ _ e) (λb ps e=>⟨#[],by rw[g _ _ e];simp⟩) (λm y=>?_) (λb u e=>?_) I.bare
 ·have e:b=a:=by simpa using j
  subst e;exact⟨.inr h1,hL,h2,h3⟩
 ·obtain⟨o,B,C,w,r⟩:=y
  exact⟨o,B,C,k _ o (Ne.symm hL) w,r⟩
 ·by_cases j:b=a
  ·subst j;rw[ae]at e;cases e;exact new
  ·rw[aq j]at e
   refine(I.hok b u e).stay (λc v d q=>k c v ?_ q) (λc q=>g _ _ q) λc l q=>g _ _ q;rcases d with z | z
   ·rw[z];exact j
   ·exact i c _ z
end
section
variable {X:Cx}{o:Expr}{apos cpos:Pos}{td:TE}
def wY(td:TE):TE:=λσ H Q=>td σ H λx H1=>∃a kvs,x=.ref a/\H1 a=some (.dK kvs)/\∀p,H1 p=none->Q (.ref p) (aD H1 p (vG p a))
theorem Cz(ho:PE X o td)(hb:attributeBase o "values" X.env (eval o X.env)=eval o X.env)(hl:(apos.endLine==cpos.line)=true):PE X (.Call (.Attribute o "values" apos) [] [] cpos) (wY td):=by
 intro c s σ H Q I h;refine wpAny_Call_method0_late hb hl (b6 (ho c s σ H _ I h) λu d ⟨x,H1,g,q,a,i,v,l,r⟩=>?_);subst v;obtain rfl:u=Value.ref a:=q;obtain⟨p,n,t3⟩:=xZ g (.inl ⟨i,.inl l⟩);refine⟨"dict",_,PySem.F.plainAttrs_dict,PySem.F.slot_dict_values,PySem.F.type_dict_values,p,n,?_⟩;refine Calls.callWith_builtin rfl (evalArgs_nil3 ?_);obtain⟨z,j,vs,rel,m⟩:=rU g.hok l;refine call_meetsIn PySem.F.slot_dict_values m.typeIs PySem.F.entry_dict_values (PySem.F.args_dict_values_1 _) (meets_dict_values (bV X.prog X.w) a j) ⟨⟨_,m⟩,?_⟩;refine⟨.ref d.heap.objs.size,aD H1 d.heap.objs.size (vG d.heap.objs.size a),g.laid (t':=d.toks) (λb u e=>Mx _ e) (MY _) ?_,rfl,r _ (g.hok.fresh (MY _))⟩;refine⟨⟨_,ME _ rfl,rfl,rfl⟩,⟨_,ME _ rfl⟩,?_⟩;rintro h1 h2 ⟨o,ho,x⟩ k;exact⟨o,k o ho,x⟩
end
end L2
namespace L2
open PySem PySem.Spec PyProof.Rows QL PySem.W
theorem oK{α β:Type}{F:α->β->Prop}:∀{l₁:List α} {l₂:List β} {i:Nat} {a:α},Paired F l₁ l₂->l₁[i]?=some a->∃b,l₂[i]?=some b/\F a b
 |_,_,_,_,.nil,e=>by simp at e
 |_,_,0,_,.cons r _,e=>by simp at e;subst e;exact⟨_,rfl,r⟩
 |_,_,i+1,a,.cons _ t,e=>by
  obtain⟨u,h1,h2⟩:=oK (i:=i) (a:=a) t (by simpa using e);exact⟨u,by simpa using h1,h2⟩
abbrev VE:=c_×Addr×List Str
abbrev IW(e:VE):c_×V:=(e.1,.ref e.2.1)
abbrev C4(e:VE):V:=.ref e.2.1
def gE(g:List Str->Int)(zs:List VE):Prop:=zs.Pairwise λa b=>TS.ordI.blt (kI (g b.2.2,b.2.2)) (kI (g a.2.2,a.2.2))=false
section
variable {X:Cx}{pins:Nw}{σ:St}{H:Hp}{s:Nz}{k:Nat}{f:Addr}{fd:NE}{ps:NG}{sp:Sp}{P:List Str->Prop}{g:List Str->Int}{Q:VK}{vs:NA}{es:List VE}
theorem Fi(F:aV X.prog X.w X.K X.mg X.base bd k f fd ps sp)(hb:dP X.K fd ps [])(hr:cO (k+2) X.A)
  (hsp:∀l ss H Q E,aI X.K H l (ss.map V.str)->P ss->(∀t,H t=none->Q (.ref t) (aD H t (.tup [.int (g ss),.ref l])))->sp [.ref l] H Q E)
  (I:Inv X pins σ H s) (hl:vs.length=es.length) (hz:es.length<=sizeLine) (hit:∀(i:Nat) (x:Value),vs[i]?=some x->∃e:VE,es[i]?=some e/\x=Value.ref e.2.1)
  (hes:∀e,e∈es->aI X.K H e.2.1 (e.2.2.map V.str)/\P e.2.2)
  (q:∀zs:List VE,zs.Perm es->gE g zs->∀(H':Hp) (l:Addr),ax H H'->H l=none->H' l=some (.lst (zs.map C4))->Q (.ref l) H') :
  TS.KeyRun X.prog X.w X.A X.xe f (EP X pins σ Q) vs s:=by
 refine⟨⋯,λe1 a6 M a4=>?_⟩;have hw:(TS.with1 s vs).objs.size=s.heap.objs.size+1:=size_push' ..;rw[hw]at a4;have nL:∀b,s.heap.objs.size<=b->b≠X.env.locals:=λb hb z=>by have h1:(X.env.locals:Nat)<s.heap.objs.size:=I.lt;rw[<- z]at h1;exact q0Q (MT h1 hb) (M_ _)
 have nF:∀b,s.heap.objs.size<=b->b∉X.fs:=λb hb=>I.nofs hb;have nC:∀b,s.heap.objs.size<=b->∀x c,X.env.cells.lookup x=some c->c≠b:=λb hb x c e z=>by
  obtain⟨v,o,ho,_⟩:=I.cell x c e;have h1:=M4 ho;rw[z]at h1;exact q0Q (MT h1 hb) (M_ _)
 have nP:∀b,s.heap.objs.size<=b->∀p∈X.pn++pins,p.1≠b:=λb hb p hp z=>by
  have h1:=M4 (I.pin p hp).1;rw[z]at h1;exact q0Q (MT h1 hb) (M_ _)
 have nS:X.s₀.heap.objs.size<=s.heap.objs.size:=I.sz;have a1:H s.heap.objs.size=none:=I.hok.fresh (MY _);have Y:∀{L:Hp} {C:Nz} {pins':Nw},Inv X (pins++pins') σ L C->∀p∈pins,C.heap.get? p.1=some p.2/\L p.1=none/\p.1≠X.env.locals/\p.1∉X.fs/\∀v,p.2.data≠.cell v:=λJ p hp=>J.pin p (q0C _ (q0D _ hp));have B:∀(xs:Array Value) (n:Nat) (v),(seqObj "list" xs n).data≠.cell v:=λxs n v z=>by cases z
 refine⟨λi kA C=>∃(L:Hp) (D:NC) (e:Nat),Inv X (pins++[(s.heap.objs.size,seqObj "list" #[] e1),(M,seqObj "list" kA e)]) σ L C/\ax H L/\kA.toList=D.map Value.ref/\D.length=i /\
  (∀(j:Nat) (t:Addr) (d:VE),D[j]?=some t->es[j]?=some d->L t=some (.tup [.int (g d.2.2),.ref d.2.1])),?_,?_,?_,?_⟩
 ·have I':Inv X pins σ H {s with heap:=TS.sort1 (TS.with1 s vs) s.heap.objs.size vs}:=by
   refine I.kept (t':=s.toks) λb u e=>?_;have:=M4 e;exact At (Mx _ e) (MU this)
  refine⟨H,[],0,I'.pins_of λp hp=>?_,ax.refl _,rfl,rfl,λj t d h=>by simp at h⟩;rcases MO.mp hp with hp | hp
  ·exact I'.pin p (q0C _ hp)
  ·rcases MQ.mp hp with rfl | hp
   ·exact⟨Mx _ (Mx _ a6),a1,nL _ (MY _),nF _ (MY _),B _ _⟩
   ·obtain rfl:=Mz.mp hp
    refine⟨?_,I.hok.fresh ⋯,nL _ ⋯,nF _ ⋯,B _ _⟩;have a8:(((TS.with1 s vs).update s.heap.objs.size (Obj.mapSeq λ_=>(#[]:Array Value))).push (seqObj "tuple" vs.toArray 0)).objs.size=M:=by rw[size_push',Heap.size_update,hw];omega
    show(TS.sort1 (TS.with1 s vs) s.heap.objs.size vs).get? M=_;rw[<- a8];exact ME _ rfl
 ·rintro i kA C ⟨L,D,e,O,sm,hk,S,U⟩
  refine⟨by rw[<- Array.length_toList,hk,My];exact S,(O.pin (s.heap.objs.size,_) (by simp)).1,e,(O.pin (M,_) (by simp)).1⟩
 ·rintro i x kA C hx ⟨L,D,e,O,sm,hk,S,U⟩
  obtain⟨d,T,rfl⟩:=hit i x hx;have a3:d∈es:=MB T;have hS:=sm.seq (hes d a3).1;have a2:=hsp d.2.1 d.2.2 L (λv H2=>∃t,v=.ref t/\L t=none/\H2=aD L t (.tup [.int (g d.2.2),.ref d.2.1])) E0 hS (hes d a3).2 λt Z=>⟨t,rfl,Z,rfl⟩;refine wpAny_call (codeAny_mono (F.run X.A.in1.in1 X.stack C L ⟨[.ref d.2.1],[]⟩ [.ref d.2.1] [.ref d.2.1] _ E0 (hr.in1.in1) O.env0.in1.in1 (hb C [.ref d.2.1] O.kIn (by have:=F.len _ _ _ _ a2;simpa using this)) (.cons rfl .nil) a2) λr s2 hq=>?_);cases r with
  |error e=>exact hq
  |ok fl=>
   cases fl with
   |next=>exact False.elim hq
   |brk=>exact False.elim hq
   |cont=>exact False.elim hq
   |ret u=>
    obtain⟨v,H2,I2,rv,t,rfl,Z,rfl⟩:=O.after hq;obtain rfl:u=Value.ref t:=rv;have p0:=I2.pin (s.heap.objs.size,seqObj "list" #[] e1) (by simp);have pk:=I2.pin (M,seqObj "list" kA e) (by simp);have Ia:Inv X (pins++[(s.heap.objs.size,seqObj "list" #[] e1)]) σ (aD L t (.tup [.int (g d.2.2),.ref d.2.1])) s2:=I2.pins_of λp hp=>by
     rcases MO.mp hp with hp | hp
     ·exact Y I2 p hp
     ·obtain rfl:=Mz.mp hp;exact p0
    have Ib:=Ia.turned (t':=s2.toks) (h':=s2.heap.update M (Obj.mapSeq (·.push (Value.ref t)))) (λb o hb e=>(Heap.get?_update_ne _ _ _ _ hb).trans e) pk.2.1 (nL _ ⋯) (.inr ⋯) (nC _ ⋯) (λp hp=>by
     rcases MO.mp hp with hp | hp
     ·exact nP _ ⋯ p (q0D _ hp)
     ·rcases MO.mp hp with hp | hp
      ·exact nP _ ⋯ p (q0C _ hp)
      ·obtain rfl:=Mz.mp hp;show s.heap.objs.size≠M;omega)
    obtain⟨e',a7⟩:∃e',(s2.heap.update M (Obj.mapSeq (·.push (Value.ref t)))).get? M=some (seqObj "list" (kA.push (Value.ref t)) e'):=⟨_,get?_update_seq pk.1 _⟩;refine⟨⟨e,pk.1⟩,aD L t (.tup [.int (g d.2.2),.ref d.2.1]),D++[t],e',Ib.pins_of λp hp=>?_,sm.trans (af Z),by simp[hk],by simp[S],λj u e2 h1 h2=>?_⟩
    rotate_right
    ·by_cases hj:j<D.length
     ·rw[MW hj]at h1
      have q1:=U j u e2 h1 h2;rw[aq (aA q1 Z)];exact q1
     ·have:j=D.length:=by have:=(Mw.mp h1).1;simp at this;omega
      subst this;rw[List.getElem?_concat_length]at h1;cases h1;rw[S,T]at h2;cases h2;exact ae
    ·rcases MO.mp hp with hp | hp
     ·exact Ib.pin p (q0C _ (q0D _ hp))
     ·rcases MQ.mp hp with rfl | hp
      ·exact Ib.pin (s.heap.objs.size,_) (by simp)
      ·obtain rfl:=Mz.mp hp
       exact⟨a7,pk.2.1,nL _ ⋯,nF _ ⋯,B _ _⟩
 ·rintro keys C ⟨L,D,e,O,sm,hk,S,U⟩
  have ez:keys.toList.zip vs=(D.zip es).map λG=>(Value.ref G.1,Value.ref G.2.2.1):=by
   apply List.ext_getElem
   ·simp[hk];omega
   ·intro i i1 i2
    have h1:i<vs.length:=by rw[q0N]at i1;omega
    obtain⟨d,T,hx⟩:=hit i vs[i] (Mv h1);obtain⟨h3,h4⟩:=Mw.mp T;simp only[List.getElem_zip,M6,hk,hx,h4]
  have tup:∀G,G∈D.zip es->TS.TupI C.heap (Value.ref G.1) (g G.2.2.2,G.2.2.2):=λG a5=>by
   obtain⟨i,hi,e⟩:=List.mem_iff_getElem.mp a5;rw[List.getElem_zip]at e;have h1:i<D.length:=by rw[q0N]at hi;omega
   have h2:i<es.length:=by rw[q0N]at hi;omega
   have q1:=U i D[i] es[i] (Mv h1) (Mv h2);subst e;exact O.pair (x:=.ref D[i]) ⟨D[i],es[i].2.1,rfl,cy.of q1,sm.seq (hes _ (MG h2)).1⟩ rfl
  have all:∀v,v∈keys.toList->∃k,TS.TupI C.heap v k:=λv hv=>by
   rw[hk]at hv;obtain⟨t,Z,rfl⟩:=Nj.mp hv;obtain⟨i,hi,e⟩:=List.mem_iff_getElem.mp Z;refine⟨_,tup (D[i],es[i]'⋯) ?_ |> λz=>by rw[<- e];exact z⟩;refine List.mem_iff_getElem.mpr ⟨i,by rw[q0N];omega,by rw[List.getElem_zip]⟩
  refine⟨tuples' true,TS.rk TS.ordI (TS.keyI C.heap) (keys.zip vs.toArray).toList,λh2 Q hq=>?_,λ_=>TS.cmp_I (by have:=hr.un;show X.A.units+1+1<cLine;omega) λp hp=>all p.1 ?_,λps p1 p2=>?_⟩
  ·have:=TS.kind_I (prog:=X.prog) (w:=X.w) (A:=X.A.in1.in1) (E:=X.xe) (vs:=keys.toList) all (by rw[hk,My];omega) hq
   simpa using this
  ·rw[ksk_zip]at hp
   exact(List.of_mem_zip hp).1
  ·rw[ksk_zip]at p2
   have p3:=TS.ranks_out p1 p2;obtain⟨R,pm,rfl⟩:=vx p1 _ ez;have mm:∀t,t∈R->t∈D.zip es:=λt Z=>pm.mem_iff.mp Z;rw[List.pairwise_map]at p3;have p4:gE g (R.map (·.2)):=by
    unfold gE;rw[List.pairwise_map];refine(List.Pairwise.and_mem.mp p3).imp ?_;rintro x y ⟨hx,hy,hb⟩;rw[TS.keyI_eq (p:=(Value.ref x.1,Value.ref x.2.2.1)) (tup x (mm x hx)),TS.keyI_eq (p:=(Value.ref y.1,Value.ref y.2.2.1)) (tup y (mm y hy))]at hb;exact hb
   have p5:(R.map (·.2)).Perm es:=(pm.map _).trans (by rw[List.map_snd_zip ⋯]);have qq:=q _ p5 p4;have a0:(((R.map (·.2))).map C4).length<=sizeLine:=by rw[My,p5.length_eq];exact hz
   have vo:bj ((R.map (·.2)).map C4) (R.map λG=>Value.ref G.2.2.1):=by
    clear p3 p4 p5 qq a0 mm pm p1 p2
    induction R with
    |nil=>exact .nil
    |cons t m ih=>exact .cons rfl ih
   have eo:List.map (λx=>x.2) (List.map (λG:Addr×VE=>(Value.ref G.1,Value.ref G.2.2.1)) R)=R.map λG=>Value.ref G.2.2.1:=by rw[MP];rfl
   rw[eo];generalize(R.map λG=>Value.ref G.2.2.1)=out at vo ⊢;generalize(R.map (·.2)).map C4=zv at vo qq a0;clear p3 p4 p5 pm mm p2 p1 eo;have p0:=O.pin (s.heap.objs.size,seqObj "list" #[] e1) (by simp);have pk:=O.pin (M,seqObj "list" keys e) (by simp);have Ia:Inv X pins σ L C:=O.pins_of (Y O);have Ib:=Ia.turned (t':=C.toks) (h':=C.heap.update M (Obj.mapSeq λ_=>(#[]:Array Value))) (λb o hb e=>(Heap.get?_update_ne _ _ _ _ hb).trans e) pk.2.1 (nL _ ⋯) (.inr ⋯) (nC _ ⋯) (nP _ ⋯);have ga:(C.heap.update M (Obj.mapSeq λ_=>(#[]:Array Value))).get? s.heap.objs.size=some (seqObj "list" #[] e1):=(Heap.get?_update_ne _ _ _ _ (λz=>by have z2:(s.heap.objs.size:Nat)=s.heap.objs.size+1+1:=Eq.trans z a4;omega)).trans p0.1;have Ic:=Ib.adopt (t':=C.toks) (a:=s.heap.objs.size) (o:=.lst zv) (h':=TS.keyEnd C.heap s.heap.objs.size M out.toArray) (λb u hb e=>(Heap.get?_update_ne _ _ _ _ hb).trans e) p0.2.1 (nL _ (MY _)) nS (nC _ (MY _)) (nP _ (MY _))
    (show bU X.prog X.w _ _ _ (.lst zv) from⟨a0,out,_,vo,get?_update_seq ga _⟩)
   exact⟨.ref s.heap.objs.size,_,Ic,rfl,qq _ _ (cM sm a1) a1 ae⟩
end
end L2
namespace aB
def kx(sb:Bool)(p q:aB):aB:=if sb=true then(p.zip q).map λx=>x.1++x.2 else p++q
theorem ng(hp:rect p r c)(hq:rect q r c'):rect (kx true p q) r (c+c'):=by
 unfold kx;rw[q07 rfl];refine⟨by rw[My,q0N,hp.1,hq.1,Nat.min_self],λx b=>?_⟩;obtain⟨⟨u,v⟩,a,rfl⟩:=Nj.mp b;have:=List.of_mem_zip a;rw[MX,hp.2 u this.1,hq.2 v this.2]
theorem pT(hp:rect p r c)(hq:rect q r' c):rect (kx false p q) (r+r') c:=by
 unfold kx;rw[q06 nofun];refine⟨by rw[MX,hp.1,hq.1],λx a=>?_⟩;rcases MO.mp a with h | h
 ·exact hp.2 x h
 ·exact hq.2 x h
end aB
namespace Win
abbrev Wn:=List Int
def wn(t l b r:Nat):Wn:=[(t:Int),(l:Int),(b:Int),(r:Int)]
def W4(t l b n:Nat):List Wn:=(List.range n).map λk=>wn t l b (l+1+k)
def W3(c t l n:Nat):List Wn:=(List.range n).flatMap λk=>W4 t l (t+1+k) (c-l)
def W2(r c t n:Nat):List Wn:=(List.range n).flatMap λl=>W3 c t l (r-t)
def W1(r c n:Nat):List Wn:=(List.range n).flatMap λt=>W2 r c t c
def dJ(r c:Nat):List Wn:=W1 r c r
theorem Ek(t l b n:Nat):W4 t l b (n+1)=W4 t l b n++[wn t l b (l+1+n)]:=by unfold W4;rw[q0M,MN];rfl
theorem D9(c t l n:Nat):W3 c t l (n+1)=W3 c t l n++W4 t l (t+1+n) (c-l):=by unfold W3;rw[q0M,List.flatMap_append];simp
theorem Fk(r c t n:Nat):W2 r c t (n+1)=W2 r c t n++W3 c t n (r-t):=by unfold W2;rw[q0M,List.flatMap_append];simp
theorem Fb(r c n:Nat):W1 r c (n+1)=W1 r c n++W2 r c n c:=by unfold W1;rw[q0M,List.flatMap_append];simp
def lt:Wn->Wn->Bool
 | [],[]=>false
 | [],_::_=>true
 |_::_,[]=>false
 |x::xs,y::ys=>if x=y then lt xs ys else decide (x<y)
def good(r c:Nat):Wn->Bool
 | [t,l,b,x]=>decide (0<=t)&&decide (t<b)&&decide (b<=(r:Int))&&decide (0<=l)&&decide (l<x)&&decide (x<=(c:Int))
 |_=>false
def CS:Wn->List Wn->Bool
 |_,[]=>true
 |a,w::ws=>lt a w&&CS w ws
def check(r c:Nat):Bool:=(dJ r c).all (good r c)&&CS [-1,0,0,0] (dJ r c)&&((dJ r c).length==r*(r+1)/2*(c*(c+1)/2))&&decide ((dJ r c).length<=1000)
theorem A_:((List.range 6).all λr=>(List.range 6).all λc=>check (r+1) (c+1))=true:=by decide +kernel
theorem Fs{r c:Nat}(hr0:0<r)(hr:r<=6)(hc0:0<c)(hc:c<=6):check r c=true:=by
 have h:=Nk.mp A_ (r-1) (List.mem_range.mpr ⋯);have h2:=Nk.mp h (c-1) (List.mem_range.mpr ⋯);have b:r-1+1=r:=by omega
 have a:c-1+1=c:=by omega
 rw[b,a]at h2;exact h2
def cut(p:List (List Nat))(t l b x:Nat):List (List Nat):=((p.drop t).take (b-t)).map λrow=>(row.drop l).take (x-l)
end Win
namespace SnM
open PySem L2 aB QL Win
def bL(p:aB):Prop:=∀row∈p,47∉row
theorem Ao(h:bL p):bL (mirror p):=by
 intro row hr;obtain⟨x,a,rfl⟩:=Nj.mp hr;rw[List.mem_reverse];exact h x a
theorem yM(hp:rect p r c)(hr:0<r)(h:bL p):bL (aT p):=by
 intro row a;unfold aT at a;rw[aW hp hr]at a;obtain⟨i,g,rfl⟩:=Nj.mp a;have g:=List.mem_range.mp g;intro d;obtain⟨x,j,e⟩:=Nj.mp d;have b:=List.mem_reverse.mp j;have hl:=hp.2 x b;rw[q0A,Mv ⋯,q0L]at e;exact h x b (e▸MG _)
theorem iM:∀(n:Nat) {p:aB} {r c:Nat},rect p r c->0<r->0<c->bL p->bL (aJ n p)
 |0,_,_,_,_,_,_,h=>h
 |n+1,p,r,c,hp,hr,hc,h=>by
  have e:aJ (n+1) p=aT (aJ n p):=(cB 1 n p).symm;rw[e];have hq:=cX n hp hr hc;refine yM hq ?_ (iM n hp hr hc h)
  split<;>assumption
theorem BB(hp:rect p r c)(hr:0<r)(hc:0<c)(h:bL p)(t:Nat):bL (turned p t):=by
 unfold turned
 split
 ·exact iM _ (bT hp) hr hc (Ao h)
 ·exact iM _ hp hr hc h
theorem G'{t:Nat}(h:bL p):bL (cut p t l b x):=by
 intro row hr;obtain⟨y,c,rfl⟩:=Nj.mp hr;exact λa=>h y (q0I (q0H c)) (q0I (q0H a))
theorem cF{t l b x:Nat}(hp:rect p r c)(h1:t<b)(h2:b<=r)(h3:l<x)(h4:x<=c):rect (cut p t l b x) (b-t) (x-l):=by
 refine⟨?_,λrow hr=>?_⟩
 ·unfold cut;rw[My,Nf,Ng,hp.1];omega
 ·obtain⟨y,a,rfl⟩:=Nj.mp hr
  have:=hp.2 y (q0I (q0H a));rw[Nf,Ng];omega
theorem kE{w:Wn}:w∈dJ r c↔∃t l b x:Nat,w=wn t l b x/\t<b/\b<=r/\l<x/\x<=c:=by
 unfold dJ W1 W2 W3 W4;simp only[List.mem_flatMap,Nj,List.mem_range]
 constructor
 ·rintro⟨t,ht,l,hl,k,hk,m,hm,rfl⟩
  exact⟨t,l,t+1+k,l+1+m,rfl,⋯,⋯,⋯,⋯⟩
 ·rintro⟨t,l,b,x,rfl,h1,h2,h3,h4⟩
  exact⟨t,⋯,l,⋯,b-t-1,⋯,x-l-1,⋯,by rw[show t+1+(b-t-1)=b by omega,show l+1+(x-l-1)=x by omega]⟩
def AW(p:aB)(w:Wn):aB:=cut p (w.getD 0 0).toNat (w.getD 1 0).toNat (w.getD 2 0).toNat (w.getD 3 0).toNat
theorem kK(p:aB)(t l b x:Nat):AW p (wn t l b x)=cut p t l b x:=rfl
def bf(p:aB)(r c:Nat)(q:aB):Prop:=∃t l b x u:Nat,t<b/\b<=r/\l<x/\x<=c/\u<8/\q=turned (cut p t l b x) u
theorem md:bf p r c q↔∃i,i<(dJ r c).length/\∃u,u<8/\q=turned (AW p ((dJ r c).getD i [])) u:=by
 constructor
 ·rintro⟨t,l,b,x,u,h1,h2,g,d,k,rfl⟩
  obtain⟨i,a,e⟩:=List.mem_iff_getElem.mp (kE.mpr ⟨t,l,b,x,rfl,h1,h2,g,d⟩);refine⟨i,a,u,k,?_⟩;rw[q0A,Mv a,q0L,e,kK]
 ·rintro⟨i,a,u,j,rfl⟩
  obtain⟨t,l,b,x,e,h1,h2,g,d⟩:=kE.mp (MG a);refine⟨t,l,b,x,u,h1,h2,g,d,j,?_⟩;rw[q0A,Mv a,q0L,e,kK]
theorem zQ(hp:rect p r c)(hn:bL p){t l b x u:Nat}(h1:t<b)(h2:b<=r)(h3:l<x)(h4:x<=c) :
  turned (cut p t l b x) u≠[]/\bL (turned (cut p t l b x) u)/\∃r' c',rect (turned (cut p t l b x) u) r' c'/\0<r'/\0<c'/\r'<=max r c/\c'<=max r c:=by
 have d:=cF hp h1 h2 h3 h4;have a:=cP d ⋯ ⋯ u;refine⟨λe=>?_,BB d ⋯ ⋯ (G' hn) u,_,_,a,by split<;>omega,by split<;>omega,by split<;>omega,by split<;>omega⟩;have:=a.1;rw[e]at this;simp at this
 split at this<;>omega
abbrev AP:=Addr×aB
def F9(z:AP):VE:=(.inr (tx (SpM.glue 47 z.2)),z.1,z.2.map tx)
abbrev jH(z:AP):c_×V:=IW (F9 z)
def lK(zs:List AP)(z:AP):List AP:=if(zs.any λz0=>decide (z0.2=z.2))=true then zs.map (λz0=>if z0.2=z.2 then z else z0) else zs++[z]
theorem cT(h:tx a=tx b):a=b:=by rw[<- cE a,<- cE b,h]
theorem C8{zs:List AP}{z:AP}(inj:∀z0∈zs,SpM.glue 47 z0.2=SpM.glue 47 z.2->z0.2=z.2):dF (zs.map jH) (.inr (tx (SpM.glue 47 z.2))) (.ref z.1)=(lK zs z).map jH:=by
 have b:∀z0∈zs,((jH z0).1=Sum.inr (tx (SpM.glue 47 z.2))↔z0.2=z.2):=λz0 c=>⟨λe=>inj z0 c (cT (Sum.inr.inj e)),λe=>by show Sum.inr (tx (SpM.glue 47 z0.2))=_;rw[e]⟩;unfold dF lK;have i:((zs.map jH).any λg=>decide (g.1=Sum.inr (tx (SpM.glue 47 z.2))))=zs.any λz0=>decide (z0.2=z.2):=by
  rw[List.any_map];clear inj
  induction zs with
  |nil=>rfl
  |cons a l ih=>
   rw[List.any_cons,List.any_cons,ih λz0 c=>b z0 (MR _ c)]
   congr 1
   exact decide_eq_decide.mpr (b a (q0B ..))
 rw[i]
 split
 ·rw[MP,MP]
  refine q0K λz0 c=>?_;show(if(jH z0).1=Sum.inr (tx (SpM.glue 47 z.2)) then((jH z0).1,V.ref z.1) else jH z0)=jH (if z0.2=z.2 then z else z0)
  by_cases h:z0.2=z.2
  ·have d:=(b z0 c).mpr h
   rw[q07 d,q07 h,d]
   rfl
  ·rw[q06 λq=>h ((b z0 c).mp q),q06 h]
 ·rw[MN];rfl
structure fu(H H':Hp)(d:Addr)(dn:aB->Prop)(zs:List AP)(n:Nat):Prop where
 tbl:H' d=some (.dK (zs.map jH))
 sm:ax H H'
 hd:H d=none
 each:∀z∈zs,H z.1=none/\H' z.1=some (.lst (av z.2))/\z.2≠[]/\bL z.2/\(z.2.headD []).length<=64
 nda:(zs.map (·.1)).Nodup
 ndp:(zs.map (·.2)).Nodup
 mem:∀q,q∈zs.map (·.2)↔dn q
 len:zs.length<=n
theorem fu.step{H1 H2:Hp}{dn:aB->Prop}(S:fu H H1 d dn zs n)(sm:ax H1 H2)(hb:H1 b=none)(hb2:H2 b=some (.lst (av q)))(hq:q≠[])(ns:bL q)(hl:(q.headD []).length<=64) :
  dF (zs.map jH) (.inr (tx (SpM.glue 47 q))) (.ref b)=(lK zs (b,q)).map jH/\fu H (aD H2 d (.dK ((lK zs (b,q)).map jH))) d (λx=>dn x\/x=q) (lK zs (b,q)) (n+1):=by
 refine⟨C8 (z:=(b,q)) λz0 h0 e=>SpM.glue_inj 47 (S.each z0 h0).2.2.1 hq (S.each z0 h0).2.2.2.1 ns e,?_⟩;have nbd:b≠d:=λe=>by rw[e,S.tbl]at hb;cases hb
 have nzd:∀z∈zs,z.1≠d:=λz hz=>rB (S.each z hz).2.1 S.tbl (by intro e;cases e);have nzb:∀z∈zs,z.1≠b:=λz hz=>aA (S.each z hz).2.1 hb;have old:∀z∈zs,H z.1=none/\aD H2 d (.dK ((lK zs (b,q)).map jH)) z.1=some (.lst (av z.2))/\z.2≠[]/\bL z.2/\(z.2.headD []).length<=64:=λz hz=>by
  obtain⟨h1,h2,h3⟩:=S.each z hz;exact⟨h1,by rw[aq (nzd z hz)];exact sm _ _ h2,h3⟩
 have new:H b=none/\aD H2 d (.dK ((lK zs (b,q)).map jH)) b=some (.lst (av q))/\q≠[]/\bL q/\(q.headD []).length<=64:=⟨S.sm.free hb,by rw[aq nbd];exact hb2,hq,ns,hl⟩
 by_cases h:(zs.any λz0=>decide (z0.2=q))=true
 ·have e:lK zs (b,q)=zs.map λz0=>if z0.2=q then(b,q) else z0:=by unfold lK;rw[q07 h]
  have e2:((lK zs (b,q)).map (·.2))=zs.map (·.2):=by
   rw[e,MP];refine q0K λz0 _=>?_;show(if z0.2=q then(b,q) else z0).2=z0.2
   split
   ·rename_i hz;exact hz.symm
   ·rfl
  obtain⟨z1,hz1,hz2⟩:=List.any_eq_true.mp h;have hz2:=of_decide_eq_true hz2;refine⟨ae,cM (S.sm.trans sm) S.hd,S.hd,?_,?_,by rw[e2];exact S.ndp,λx=>?_,by rw[e,My];exact Nat.le_succ_of_le S.len⟩
  ·intro z hz
   have hz':=hz;rw[e]at hz';obtain⟨z0,h0,ez⟩:=Nj.mp hz'
   split at ez
   ·rw[<- ez];exact new
   ·rw[<- ez];exact old z0 h0
  ·rw[e,MP,List.Nodup,List.pairwise_map]
   have h1:=S.nda;have h2:=S.ndp;rw[List.Nodup,List.pairwise_map]at h1 h2;refine(List.Pairwise.and_mem.mp (h1.and h2)).imp ?_;rintro x y ⟨hx,hy,n1,n2⟩;show(if x.2=q then(b,q) else x).1≠(if y.2=q then(b,q) else y).1
   by_cases c1:x.2=q
   ·rw[q07 c1,q06 λc2=>n2 (c1.trans c2.symm)]
    exact(nzb y hy).symm
   ·rw[q06 c1]
    by_cases c2:y.2=q
    ·rw[q07 c2];exact nzb x hx
    ·rw[q06 c2];exact n1
  ·rw[e2,S.mem]
   refine⟨.inl,λz=>z.elim id λz=>?_⟩;rw[<- S.mem,z];exact Nj.mpr ⟨z1,hz1,hz2⟩
 ·have e:lK zs (b,q)=zs++[(b,q)]:=by unfold lK;rw[q06 h]
  refine⟨ae,cM (S.sm.trans sm) S.hd,S.hd,?_,?_,?_,λx=>?_,by rw[e,MX];exact Nat.succ_le_succ S.len⟩
  ·intro z hz
   have hz':=hz;rw[e]at hz';rcases MO.mp hz' with hz' | hz'
   ·exact old z hz'
   ·rw[Mz.mp hz'];exact new
  ·rw[e,MN,List.nodup_append]
   refine⟨S.nda,by simp,λa ha c hc=>?_⟩;obtain⟨z,hz,rfl⟩:=Nj.mp ha;have:c=b:=by simpa using hc
   rw[this];exact nzb z hz
  ·rw[e,MN,List.nodup_append]
   refine⟨S.ndp,by simp,λa ha c hc=>?_⟩;obtain⟨z,hz,rfl⟩:=Nj.mp ha;have:c=q:=by simpa using hc
   rw[this];exact λhz2=>h (List.any_eq_true.mpr ⟨z,hz,q09 hz2⟩)
  ·rw[e,MN,MO,S.mem]
   simp
theorem fu.congr{dn dn':aB->Prop}(S:fu H H' d dn zs n)(h:∀q,dn q↔dn' q):fu H H' d dn' zs n:=⟨S.tbl,S.sm,S.hd,S.each,S.nda,S.ndp,λq=>(S.mem q).trans (h q),S.len⟩
theorem fu.same{H2:Hp}{dn:aB->Prop}(S:fu H H' d dn zs n)(sm:ax H' H2):fu H H2 d dn zs n:=⟨sm _ _ S.tbl,S.sm.trans sm,S.hd,λz hz=>let ⟨h1,h2,h3⟩:=S.each z hz;⟨h1,sm _ _ h2,h3⟩,S.nda,S.ndp,S.mem,S.len⟩
def gi(ss:NG):Int:=(ss.length:Int)*((ss.headD ⟨#[]⟩).length:Int)
def bu(p:aB):Nat:=p.length*(p.headD []).length
def JP(a b:aB):Prop:=bu a<bu b\/bu a=bu b/\a<b
def GL(p:aB)(r c:Nat)(qs:List aB):Prop:=(∀q,q∈qs↔bf p r c q)/\qs.Pairwise JP
theorem zb(p:aB):((p.map tx).headD ⟨#[]⟩).length=(p.headD []).length:=by
 cases p with
 |nil=>rfl
 |cons r p=>exact aw r
theorem AD(p:aB):gi (p.map tx)=(bu p:Int):=by
 unfold gi bu;rw[My,zb];simp
theorem Hz(p:aB):TS.ks (p.map tx)=p:=by
 unfold TS.ks;rw[MP];exact(q0K λr _=>cE r).trans (List.map_id _)
theorem FP(p:aB):kI (gi (p.map tx),p.map tx)=((bu p:Int),p):=by
 show(gi (p.map tx),TS.ks (p.map tx))=_;rw[AD,Hz]
theorem A0{ws:List AP}(h:gE gi (ws.map F9))(nd:(ws.map (·.2)).Nodup):(ws.map (·.2)).Pairwise JP:=by
 unfold gE at h;rw[List.pairwise_map]at h ⊢;rw[List.Nodup,List.pairwise_map]at nd;refine(h.and nd).imp ?_;rintro a b ⟨c,ne⟩;have c:TS.ordI.blt (kI (gi (b.2.map tx),b.2.map tx)) (kI (gi (a.2.map tx),a.2.map tx))=false:=c;rw[FP,FP]at c;cases d:TS.ordI.blt ((bu a.2:Int),a.2) ((bu b.2:Int),b.2) with
 |true=>
  have:=of_decide_eq_true d;rcases this with h1 | ⟨h1,h2⟩
  ·exact .inl (Int.ofNat_lt.mp h1)
  ·exact .inr ⟨Int.ofNat.inj h1,h2⟩
 |false=>
  have:=TS.ordI.total _ _ d c;exact q0Q (q0R Prod.snd this) ne
theorem jY{t l b x i j:Nat}(hp:rect p r c)(h2:b<=r)(h4:x<=c)(hi:i<b-t)(hj:j<x-l):Br (cut p t l b x) i j=Br p (t+i) (l+j):=by
 have h1:t+i<p.length:=by rw[hp.1];omega
 have h3:(p[t+i]).length=c:=hp.2 _ (MG _);have a:(cut p t l b x).getD i []=((p.getD (t+i) []).drop l).take (x-l):=by
  unfold cut;simp only[q0A];rw[MA,List.getElem?_take_of_lt hi,List.getElem?_drop,Mv h1]
  rfl
 unfold Br;rw[a];simp only[q0A];rw[List.getElem?_take_of_lt hj,List.getElem?_drop]
theorem w8{t l b x:Nat}(hp:rect p r c)(h1:t<b)(h2:b<=r)(h3:l<x)(h4:x<=c):cut (mirror p) t l b x=mirror (cut p t (c-x) b (c-l)):=by
 have d:=cF hp h1 h2 (show c-x<c-l by omega) (show c-l<=c by omega);refine jh (cF (bT hp) h1 h2 h3 h4) (r:=b-t) (c:=x-l) ?_ λi j a e=>?_
 ·have:=bT d
  rwa [show c-l-(c-x)=x-l by omega]at this
 ·rw[jY (bT hp) h2 h4 a e,jc hp ⋯ ⋯,jc d a ⋯,jY hp h2 ⋯ a ⋯]
  congr 1
  omega
theorem vT{t l b x:Nat}(hp:rect p r c)(h1:t<b)(h2:b<=c)(h3:l<x)(h4:x<=r):cut (aT p) t l b x=aT (cut p (r-x) t (r-l) b):=by
 have e:=cF hp (show r-x<r-l by omega) (show r-l<=r by omega) h1 h2;have a:=bw hp ⋯;refine jh (cF a h1 h2 h3 h4) (r:=b-t) (c:=x-l) ?_ λi j d g=>?_
 ·have:=bw e ⋯
  rwa [show r-l-(r-x)=x-l by omega]at this
 ·rw[jY a h2 h4 d g,cJ hp ⋯ ⋯ ⋯,cJ e ⋯ d ⋯,jY hp ⋯ h2 ⋯ ⋯]
  congr 1
  omega
theorem gN:∀(n:Nat) {p:aB} {r c t l b x:Nat},rect p r c->t<b->b<=(if n%2=0 then r else c)->l<x->x<=(if n%2=0 then c else r)->∃t' l' b' x',t'<b'/\b'<=r/\l'<x'/\x'<=c/\cut (aJ n p) t l b x=aJ n (cut p t' l' b' x')
 |0,p,r,c,t,l,b,x,hp,h1,h2,h3,h4=>⟨t,l,b,x,h1,by simpa using h2,h3,by simpa using h4,rfl⟩
 |n+1,p,r,c,t,l,b,x,hp,h1,h2,h3,h4=>by
  have hr:0<r/\0<c:=by
   split at h2<;>split at h4<;>omega
  have e:∀q:aB,aJ (n+1) q=aJ n (aT q):=λq=>rfl;rw[e];obtain⟨t',l',b',x',g,d,k,j,i⟩:=gN n (bw hp hr.1) (t:=t) (l:=l) (b:=b) (x:=x) h1 (by
   by_cases a:n%2=0
   ·rw[q06 ⋯]at h2;rw[q07 a];exact h2
   ·rw[q07 ⋯]at h2;rw[q06 a];exact h2) h3 (by
   by_cases a:n%2=0
   ·rw[q06 ⋯]at h4;rw[q07 a];exact h4
   ·rw[q07 ⋯]at h4;rw[q06 a];exact h4)
  refine⟨r-x',t',r-l',b',⋯,⋯,g,d,?_⟩;rw[i,vT hp g d k j,e]
theorem yC{t l b x u:Nat}(hp:rect p r c)(h1:t<b)(h2:b<=(if u%2=0 then r else c))(h3:l<x)(h4:x<=(if u%2=0 then c else r)):∃t' l' b' x',t'<b'/\b'<=r/\l'<x'/\x'<=c/\cut (turned p u) t l b x=turned (cut p t' l' b' x') u:=by
 have e:u%4%2=u%2:=by omega
 unfold turned
 by_cases h:4<=u
 ·rw[q07 h]
  obtain⟨t',l',b',x',d,a,j,i,g⟩:=gN (u%4) (bT hp) h1 (by rw[e];exact h2) h3 (by rw[e];exact h4);refine⟨t',c-x',b',c-l',d,a,⋯,⋯,?_⟩;rw[g,w8 hp d a j i,q07 h]
 ·rw[q06 h]
  obtain⟨t',l',b',x',d,a,j,i,g⟩:=gN (u%4) hp h1 (by rw[e];exact h2) h3 (by rw[e];exact h4);refine⟨t',l',b',x',d,a,j,i,?_⟩;rw[g,q06 h]
theorem E6{t l b x t' l' b' x':Nat}(hp:rect p r c)(h1:t<b)(h2:b<=r)(h3:l<x)(h4:x<=c)(k1:t'<b')(k2:b'<=b-t)(k3:l'<x')(k4:x'<=x-l):cut (cut p t l b x) t' l' b' x'=cut p (t+t') (l+l') (t+b') (l+x'):=by
 have a:=cF hp h1 h2 h3 h4;have g:=cF hp (show t+t'<t+b' by omega) ⋯ (show l+l'<l+x' by omega) ⋯;refine jh (cF a k1 k2 k3 k4) (r:=b'-t') (c:=x'-l') ?_ λi j e d=>?_
 ·rwa [show t+b'-(t+t')=b'-t' by omega,show l+x'-(l+l')=x'-l' by omega]at g
 ·rw[jY a k2 k4 e d,jY hp h2 h4 ⋯ ⋯,jY hp ⋯ ⋯ ⋯ ⋯]
  congr 1<;>omega
theorem EC(hp:rect p r c):cut p 0 0 r c=p:=by
 unfold cut;rw[Nt,Nat.sub_zero,Nat.sub_zero,q0F (by rw[hp.1];exact MY _)]
 conv=>rhs;rw[<- List.map_id p]
 refine q0K λy a=>?_;rw[Nt,q0F (by rw[hp.2 y a];exact MY _)];rfl
theorem sO(hp:rect p r c):p.take n=cut p 0 0 n c:=by
 unfold cut;rw[Nt,Nat.sub_zero,Nat.sub_zero]
 conv=>lhs;rw[<- List.map_id (p.take n)]
 refine q0K λy a=>?_;rw[Nt,q0F (by rw[hp.2 y (q0H a)];exact MY _)];rfl
theorem sP(hp:rect p r c):p.drop n=cut p n 0 r c:=by
 unfold cut;rw[Nat.sub_zero,q0F (by rw[Ng,hp.1];exact MY _)]
 conv=>lhs;rw[<- List.map_id (p.drop n)]
 refine q0K λy a=>?_;rw[Nt,q0F (by rw[hp.2 y (q0I a)];exact MY _)];rfl
theorem sj(hp:rect p r c):(p.map λy=>y.take n)=cut p 0 0 r n:=by
 unfold cut;rw[Nt,Nat.sub_zero,Nat.sub_zero,q0F (by rw[hp.1];exact MY _)]
 rfl
theorem r8(hp:rect p r c):(p.map λy=>y.drop n)=cut p 0 n r c:=by
 unfold cut;rw[Nt,Nat.sub_zero,q0F (by rw[hp.1];exact MY _)];refine q0K λy a=>?_;rw[q0F (by rw[Ng,hp.2 y a];exact MY _)]
theorem bf.rect(hp:rect p r c)(h:bf p r c q):∃r' c',rect q r' c'/\0<r'/\0<c'/\r'<=max r c/\c'<=max r c:=by
 obtain⟨t,l,b,x,u,h1,h2,e,d,h5,rfl⟩:=h;have a:=cF hp h1 h2 e d;exact⟨_,_,cP a ⋯ ⋯ u,by split<;>omega,by split<;>omega,by split<;>omega,by split<;>omega⟩
theorem bf.ns(hp:aB.rect p r c)(hn:bL p)(h:bf p r c q):bL q:=by
 obtain⟨t,l,b,x,u,h1,h2,d,a,h5,rfl⟩:=h;exact(zQ hp hn h1 h2 d a).2.1
theorem bf.self(hp:aB.rect p r c)(r0:0<r)(c0:0<c):bf p r c p:=⟨0,0,r,c,0,r0,MY _,c0,MY _,⋯,by rw[nn,EC hp]⟩
theorem bf.turned{u:Nat}(hp:aB.rect p r c)(h:bf p r c q)(hu:u<8):bf p r c (aB.turned q u):=by
 obtain⟨t,l,b,x,v,h1,h2,e,d,a,rfl⟩:=h;have g:=cF hp h1 h2 e d;exact⟨t,l,b,x,after v u,h1,h2,e,d,gw a hu,bN g ⋯ ⋯ a hu⟩
theorem bf.cut{t l b x:Nat}(hp:aB.rect p r c)(h:bf p r c q)(hq:aB.rect q r' c')(h1:t<b)(h2:b<=r')(h3:l<x)(h4:x<=c'):bf p r c (Win.cut q t l b x):=by
 obtain⟨a,d,o,e,v,k,j,i,g,I,rfl⟩:=h;have n:=cF hp k j i g;have m:=cP n ⋯ ⋯ v;have J:r'=if v%2=0 then o-a else e-d:=by rw[<- hq.1,m.1]
 have L:c'=if v%2=0 then e-d else o-a:=by
  rw[<- aW hq ⋯,aW m (by split<;>omega)]
 obtain⟨y,G,M,w,m1,D,C,B,z⟩:=yC (u:=v) n h1 (by rw[<- J];exact h2) h3 (by rw[<- L];exact h4);rw[z,E6 hp k j i g m1 D C B];exact⟨a+y,d+G,a+M,d+w,v,⋯,⋯,⋯,⋯,I,rfl⟩
end SnM
namespace L2
open PySem PySem.Spec PyProof.Rows QL
def jJ(x:V)(P:Addr->Prop):Prop:=match x with
 | .ref a=>P a
 |y=>∃a,y=.ref a/\P a
def isInt(x:V)(P:Int->Prop):Prop:=match x with
 | .int a=>P a
 |y=>∃a,y=.int a/\P a
def FS(x:V)(P:Bool->Prop):Prop:=match x with
 | .bl a=>P a
 |y=>∃a,y=.bl a/\P a
def FT(x:V)(P:Str->Prop):Prop:=match x with
 | .str a=>P a
 |y=>∃a,y=.str a/\P a
def Hq(xs:List V)(P:V->Prop):Prop:=match xs with
 | [x]=>P x
 |y=>∃x,y=[x]/\P x
theorem fb:jJ x P = ∃a,x=.ref a/\P a:=by
 unfold jJ;split
 ·simp
 ·rfl
theorem k8:isInt x P = ∃a,x=.int a/\P a:=by
 unfold isInt;split
 ·simp
 ·rfl
theorem Co:FS x P = ∃a,x=.bl a/\P a:=by
 unfold FS;split
 ·simp
 ·rfl
theorem Dr:FT x P = ∃a,x=.str a/\P a:=by
 unfold FT;split
 ·simp
 ·rfl
theorem vi:Hq xs P = ∃x,xs=[x]/\P x:=by
 unfold Hq;split
 ·simp
 ·rfl
theorem En{K:Nv}:wK K x y H Q=jJ x λp=>isInt y λi=>∃xs,aI K H p xs/\∃v,je xs i=some v/\Q v H:=by
 rw[zK,fb];unfold Bh;simp only[k8]
 refine propext ⟨λ⟨p,xs,i,v,a,b,c,d,e⟩=>⟨p,a,i,b,xs,c,v,d,e⟩,λ⟨p,a,i,b,xs,c,v,d,e⟩=>⟨p,xs,i,v,a,b,c,d,e⟩⟩
theorem ET{K:Nv}:vJ K x y H Q=jJ x λp=>isInt y λi=>∃xs,cy K H p xs/\∃v,je xs i=some v/\Q v H:=by
 rw[zS,fb];unfold xu;simp only[k8]
 refine propext ⟨λ⟨p,xs,i,v,a,b,c,d,e⟩=>⟨p,a,i,b,xs,c,v,d,e⟩,λ⟨p,a,i,b,xs,c,v,d,e⟩=>⟨p,xs,i,v,a,b,c,d,e⟩⟩
def mf(t:TE):TT:=λσ H Q=>t σ H λx H'=>FS x λk=>Q k H'
def uE(t:TE):TO:=λσ H Q=>t σ H λx H1=>isInt x λi=>Q (some i) H1
def ug(K:Nv)(tl:TE):TI:=λσ H R=>tl σ H λx H1=>jJ x λa=>(∃xs,aI K H1 a xs)/\R (AX K a) H1
def oN(ta:TA):TI:=λσ H R=>ta σ H λvs H1=>Hq vs λv=>isInt v λj=>-(2 ^ 62)<=j/\j<2 ^ 62/\R (Af 0 j.toNat) H1
def vI(K:Nv)(ta:TE)(f:Str):TE:=λσ H Q=>ta σ H λx H1=>jJ x λa=>∃C dx fs,H1 a=some (.ins C dx fs)/\iF K C/\ay K C f/\∃v,fs.lookup f=some v/\Q v H1
def v9(K:Nv)(ta tv:TE)(f:Str):TS:=λD σ H=>tv σ H λy H1=>ta σ H1 λx H2=>jJ x λa=>∃C dx fs,H2 a=some (.ins C dx fs)/\iF K C/\ay K C f/\fs.length<1000 /\
 D.nx σ (aD H2 a (.ins C dx (cG f y fs)))
def kM:V->List V->Hp->VK->Prop:=λx vs H Q=>jJ x λl=>Hq vs λy=>∃xs,H l=some (.lst xs)/\xs.length<sizeLine/\Q .non (aD H l (.lst (xs++[y])))
def tZ(K:Nv):List V->Hp->VK->Prop:=λxs H Q=>Hq xs λx=>jJ x λp=>∃ys,aI K H p ys/\Q (.int ys.length) H
def uh:List V->Hp->VK->Prop:=λxs H Q=>Hq xs λx=>FT x λz=>z.length<=sizeLine/\Q (.int z.length) H
def vp(K:Nv)(n:Nat)(t:D2):TG:=λv σ H Q=>jJ v λa=>∃xs,cy K H a xs/\xs.length=n/\t xs σ H Q
section
variable {X:Cx}{e a b c l:Expr}{ta tb tc te tl:TE}{pos:Pos}
theorem PT.tm{t:TE}(h:PT X e (rG t)):PT X e (mf t):=λpins s σ H Q I q=>h pins s σ H Q I (by simp only[mf,Co]at q;exact q)
theorem aK{op:CmpOp}{r:R2}(ho:bC X (compareOp op) r)(ha:PE X a ta)(hb:PE X b tb)(hm:behindInMarks op b=false):PT X (.Compare a [op] [b] pos) (mf (GF r ta tb)):=(og ho ha hb hm).tm
theorem cR(ha:PE X a ta)(he:∀whole,isTrue a X.env whole=(do let v <- whole;standAt a.pos;holding [v] (truthy v))):PT X a (mf ta):=(IC ha he).tm
theorem cz(h:PE X e te):PO X (some e) (uE te):=λpins s σ H Q I q=>Fq h pins s σ H Q I (by simp only[uE,k8]at q;exact q)
theorem aR{tg:Expr}(hl:PE X l tl):PI X tg l (ug X.K tl):=λpins s σ H R I q=>tX hl pins s σ H R I (by simp only[ug,fb]at q;exact q)
theorem bP{tg:Expr}{ta:TA}{p:Pos}(hg:Gl X "range")(hm:X.mg "range"=none)(ha:PA X [a] ta)(hs:autoParam (starEach [a] X.env=[(false,eval a X.env)]) zz0._auto_1):PI X tg (.Call (.Name "range" p) [a] [] pos) (oN ta):=λpins s σ H R I q=>rE hg hm ha hs pins s σ H R I (by
 have e:oN ta σ H R=wI ta σ H R:=by
  unfold oN wI;refine q0R (ta σ H) (funext λvs=>funext λH1=>?_);simp only[vi,k8];exact propext ⟨λ⟨x,e,j,b,r⟩=>⟨j,by rw[e,b],r⟩,λ⟨j,e,r⟩=>⟨_,e,j,rfl,r⟩⟩
 exact e▸q)
theorem bo:dH X (.builtin "len") (tZ X.K):=λpins s σ H xs us Q I r h=>rp pins s σ H xs us Q I r (by
 simp only[tZ,vi,fb]at h;obtain⟨x,rfl,p,rfl,ys,h1,h2⟩:=h;exact⟨p,ys,rfl,h1,h2⟩)
theorem aS:dH X (.builtin "len") uh:=λpins s σ H xs us Q I r h=>uV pins s σ H xs us Q I r (by
 simp only[uh,vi,Dr]at h;obtain⟨x,rfl,p,rfl,h1,h2⟩:=h;exact⟨p,rfl,h1,h2⟩)
theorem cg:Jo X "list.append" kM:=λpins s σ H x vs v us Q I rx rv h=>rT pins s σ H x vs v us Q I rx rv (by
 simp only[kM,vi,fb]at h;obtain⟨l,rfl,y,rfl,xs,h1,h2,h3⟩:=h;exact⟨l,xs,y,rfl,rfl,h1,h2,h3⟩)
theorem cw{f:Str}{value:Expr}{tv:TE}{pos':Pos}(ha:PE X o ta)(hv:PE X value tv)(hs:swapsWith value (some (.Attribute o f pos')) pos.line X.env=pure false):PS X (.Assign [.Attribute o f pos'] value pos) (v9 X.K ta tv f):=λpins s σ H D I q=>Hd ha hv hs pins s σ H D I (by
 have e:v9 X.K ta tv f D σ H=Ca X.K ta tv f D σ H:=by
  unfold v9 Ca;refine q0R (tv σ H) (funext λy=>funext λH1=>q0R (ta σ H1) (funext λx=>funext λH2=>?_));simp only[fb];exact propext ⟨λ⟨a,e,C,b,fs,r⟩=>⟨a,C,b,fs,e,r⟩,λ⟨a,C,b,fs,e,r⟩=>⟨a,e,C,b,fs,r⟩⟩
 exact e▸q)
theorem fT{es:NL}{t:D2}{n:Nat}(hc:X.calm=true)(h:Ht X es t)
  (hn:autoParam ((assignEach es X.env).length=n) zz0._auto_1) (hst:autoParam ((assignEach es X.env).findIdx? (·.1)=none) zz0._auto_1):PG X (.Tuple es k pos) (vp X.K n t):=λpins s σ H v u Q I r q=>yv hc h hn hst pins s σ H v u Q I r (by
 have e:vp X.K n t v σ H Q=yU X.K n t v σ H Q:=by
  unfold vp yU;simp only[fb];exact propext ⟨λ⟨a,e,b,r⟩=>⟨a,b,e,r⟩,λ⟨a,b,e,r⟩=>⟨a,e,b,r⟩⟩
 exact e▸q)
theorem bE{f:Str}(he:PE X e ta)(hb:attributeBase e f X.env (eval e X.env)=eval e X.env):PE X (.Attribute e f pos) (vI X.K ta f):=λpins s σ H Q I q=>xS he hb pins s σ H Q I (by
 have e:vI X.K ta f σ H Q=zV X.K ta f σ H Q:=by
  unfold vI zV;refine q0R (ta σ H) (funext λx=>funext λH1=>?_);simp only[fb];exact propext ⟨λ⟨a,e,C,g,fs,h1,h2,d,v,c,b⟩=>⟨a,C,g,fs,v,e,h1,h2,d,c,b⟩,λ⟨a,C,g,fs,v,e,h1,h2,d,c,b⟩=>⟨a,e,C,g,fs,h1,h2,d,v,c,b⟩⟩
 exact e▸q)
end
section
variable {prog:NF}{w:NJ}{A:NH}{E:Nu}{s:Nz}
theorem jT:∀(l:NG) (p:Str),risingS p l=true->(∀q∈l,¬ q.cps.toList<p.cps.toList)/\l.Pairwise (λa b=>¬ b.cps.toList<a.cps.toList)
 | [],_,_=>⟨λ_ h=>(nomatch h),.nil⟩
 |x::r,p,h=>by
  have h':(!ltCps x.cps.toList p.cps.toList&&risingS x r)=true:=h;rw[q0O,Bool.not_eq_true',ltCps_eq,decide_eq_false_iff_not]at h';obtain⟨h1,h2⟩:=jT r x h'.2;refine⟨λq hq=>?_,.cons h1 h2⟩;rcases MQ.mp hq with rfl | hq
  ·exact h'.1
  ·exact List.not_lt.mpr (List.le_trans (List.not_lt.mp h'.1) (List.not_lt.mp (h1 q hq)))
theorem xK(h:sortedS l=true):l.Pairwise (λa b=>¬ b.cps.toList<a.cps.toList):=by
 cases l with
 |nil=>exact .nil
 |cons x r=>exact .cons (jT r x h).1 (jT r x h).2
theorem kF:∀{ys:NG} {us:NA},StrsAre us ys->bj (ys.map V.str) us
 |_,_,.nil=>.nil
 |_,_,.cons x t h=>.cons ⟨t,rfl⟩ (kF h)
theorem uS{Q:Nu}
  (hc:wpAny (model prog w) A.in1 (collect v) (λvs s2=>vs.length<64/\∃ss,StrsAre vs ss/\∀(out:Array Value) (ss':NG),StrsAre out.toList ss'->ss'.Perm ss->ss'.Pairwise (λa b=>¬ b.cps.toList<a.cps.toList)->Q (.ref s2.heap.objs.size) {s2 with heap:=sortedHeap (s2.heap.push (seqObj "list" vs.toArray 0)) s2.heap.objs.size vs out}) E s) :
  wpAny (model prog w) A (call (.builtin "sorted") [v]) Q E s:=by
 refine Calls.call_function_entry kind_sorted plain_sorted entry_sorted (args_sorted1 v) ?_;unfold Builtin.«sorted»;refine q04 (m:=checkCount "sorted" 1 1 _) (q05 ?_)
 refine q04 (q0W hc (λvs s2 ⟨g,ss,d,h⟩=>q04 (wpAny_newList ?_ (hsz:=by rw[q0V];omega))) λ_ _ e=>e);have c:(s2.heap.push (seqObj "list" vs.toArray 0)).get? s2.heap.objs.size=some (seqObj "list" vs.toArray 0):=ME _ rfl;refine q04 (q0X (wpAny_call_entry slot_list_sort ⟨_,c,rfl⟩ entry_list_sort (list_sort_treeK (s:={s2 with heap:=s2.heap.push (seqObj "list" vs.toArray 0)}) strKind_oneLt c d.keysOf (λv₁ v₂ cN e=>keyKind_strs (by rw[<- e];exact d)) g λst' j i=>⟨_,rfl,?_⟩) (args_list_sort _)));refine q05 ⟨_,rfl,?_⟩;obtain⟨ss',h1,h2,k⟩:=sorted_out_str d j i;exact h _ ss' h1 h2 (xK k)
end
section
variable {X:Cx}
def yN:List V->Hp->VK->Prop:=λxs H Q=>∃(z:Str),xs=[.str z]/\z.length<64 /\
 ∀zs:List Str,zs.Perm (z.cps.toList.map λc=>⟨#[c]⟩)->zs.Pairwise (λa b=>¬ b.cps.toList<a.cps.toList)->∀l,H l=none->Q (.ref l) (aD H l (.lst (zs.map V.str)))
theorem yj(hc:X.calm=true):dH X (.builtin "sorted") yN:=by
 intro pins s σ H xs us Q I r h;obtain⟨z,rfl,L,q⟩:=h;obtain⟨u,rfl,t,rfl⟩:=ow r;have l:z.length<=sizeLine:=by rw[q0V];omega
 refine uS (wpAny_collect_str (A:=X.A.in1) (hn:=l) (show X.A.in1.handled=none from I.ok.hd hc) z t λi a M hg hd ho d=>?_);obtain⟨h',g,S⟩:∃h' g,i={s with heap:=h',toks:=g}:=⟨i.heap,i.toks,by cases s;cases i;simp_all⟩;subst S;have B:bj ((z.cps.toList.map λc=>(⟨#[c]⟩:Str)).map V.str) a.toList:=by
  refine t9 _ _ (by rw[My,My];simp[d.1]) λj x u v U=>?_;obtain⟨c,tk2,p,rfl⟩:=d.2 j u (by simpa using U);rw[MA,MA]at v;have T:z.cps.toList[j]?=some c:=by simpa using p
  rw[T]at v;cases v;exact⟨_,rfl⟩
 have R:=dD B;have hn:a.toList.length<64:=by rw[Array.length_toList,d.1];exact L
 have D:=I.kept (t':=g) M;refine⟨hn,_,R,λout k J y G=>?_⟩;have m:(h'.push (seqObj "list" a.toList.toArray 0)).get? h'.objs.size=some (seqObj "list" a.toList.toArray 0):=ME _ rfl;obtain⟨Y,O⟩:=sortedHeap_at (out:=out) m;have n:k.length<=sizeLine:=by rw[y.length_eq];have:=B.length;rw[My]at this;rw[q0V];omega
 refine⟨.ref h'.objs.size,_,D.laid (t':=g) (h':=sortedHeap (h'.push (seqObj "list" a.toList.toArray 0)) h'.objs.size a.toList out) (λb o C=>?_) (MY _) (show bU X.prog X.w _ _ _ (.lst (k.map V.str)) from⟨by rw[My];exact n,out.toList,Y,kF J,O⟩),rfl,q k y G _ (D.hok.fresh (MY _))⟩;have e:b<h'.objs.size:=M4 C;rw[sortedHeap_old (MU e) (by show _<(Heap.push _ _).objs.size;rw[size_push'];exact Nat.lt_succ_of_lt e)];exact Mx _ C
end
end L2
namespace TS
open PySem PyProof.Rows PySem.W
section
variable {prog:NF}{w:NJ}{A:NH}{E:Nu}{J:Shared->Prop}{a₀:Array Keyed}{kd:SortKind}{r:Keyed->Nat}
structure IR(a₀:PA)(kd:SortKind)(r:Keyed->Nat)(st:SortSt):Prop where
 sb:SB a₀ kd st
 pe:(pendingOf st).size=1
 up:(arrOf st).toList.Pairwise (tE r)
theorem Hg{st:SortSt}(B:SB a₀ kd st)(hu:Up r (arrOf st) 0 a₀.size):(arrOf st).toList.Pairwise (tE r):=by
 obtain⟨y,v,e,b,a⟩:=KB.split (lo:=0) (st₀:=st) ⟨B,rfl,λ_ _=>rfl⟩ (u:=[]) (v:=(arrOf st).toList) rfl rfl ⋯ hu;have:=q0R List.length e;have h2:=B.size;have:v=[]:=by
  refine Ni.mp ?_;rw[Array.length_toList]at this;simp at this b;omega
 subst this;rw[e];simpa using a
theorem IR.of{st:SortSt}(B:SB a₀ kd st)(hp:pendingOf st=#[])(hu:Up r (arrOf st) 0 a₀.size)(e:Nat×Nat×Nat):IR a₀ kd r (setPending st ((pendingOf st).push e)):=
 ⟨⟨B.perm,B.kind,B.failed⟩,by show((pendingOf st).push e).size=1;rw[hp];rfl,(Hg (kd:=kd) B hu:(arrOf st).toList.Pairwise (tE r))⟩
theorem uq(C:w_ prog w A J a₀ kd r){st:SortSt}{Q:Unit->SortSt->Prop}(B:SB a₀ kd st)(hp:pendingOf st=#[])(h1:1<=a₀.size)(h64:a₀.size<64)
  (h:∀st',SB a₀ kd st'->(arrOf st').toList.Pairwise (tE r)->Q () st'):mS (model prog w) A E J sortRuns' Q st:=by
 rw[sortRuns'_eq];refine bD (su ?_);dsimp only;have k:minRun' a₀.size a₀.size 0=a₀.size:=by
  obtain⟨f,L⟩:∃f,a₀.size=f+1:=⟨a₀.size-1,⋯⟩;have:minRun' (f+1) a₀.size 0=a₀.size:=by rw[minRun'_succ,q07 h64];rfl
  rwa [<- L]at this
 simp only[B.size,k];refine bD (lS (sh (I:=λx c st'=>(x=0/\c=(none,0)/\SB a₀ kd st'/\pendingOf st'=#[])\/(1<=x/\c=(none,a₀.size)/\IR a₀ kd r st')) (Q:=λc st'=>c=(none,a₀.size)/\IR a₀ kd r st') ?cs ?ce (.inl ⟨rfl,rfl,B,hp⟩)) ?cp)
 case ce=>
  rintro c st' (⟨z,_⟩ | ⟨_,M,b⟩)
  ·omega
  ·exact⟨M,b⟩
 case cs=>
  rintro x c st' _ z (⟨rfl,rfl,O,g⟩ | ⟨hx1,rfl,b⟩)
  ·dsimp only
   rw[q06 ⋯];simp only[Nat.sub_zero,Nat.min_self,Nat.zero_add];refine bD (yx C O (lo:=0) (n:=a₀.size) ⋯ ⋯ λm e o m1 m2 u=>?_);dsimp only;have q:pendingOf e=#[]:=by rw[o.pe];exact g
   by_cases i:m<a₀.size
   ·rw[q07 i]
    refine bD (yT λ_ y=>wpAny_rule ⟨y,?_⟩);refine bD (HG C o (n:=a₀.size) ⋯ ⋯ u λd v j=>?_);rw[q06 nofun];refine bD (su ?_);have p:pendingOf d=#[]:=by rw[v.pe];exact g
    have l:(pendingOf d).back?=none:=by rw[p];rfl
    rw[l];dsimp only;exact bD (kH (cr (.inr ⟨⋯,rfl,.of v.sb p j _⟩)))
   ·rw[q06 i]
    have D:m=a₀.size:=by omega
    subst D;refine bD (su ?_);have l:(pendingOf e).back?=none:=by rw[q];rfl
    rw[l];dsimp only;exact bD (kH (cr (.inr ⟨⋯,rfl,.of o.sb q u _⟩)))
  ·dsimp only
   rw[q07 (MY _)];exact cr ⟨rfl,b⟩
 case cp=>
  rintro c st' ⟨rfl,b⟩;dsimp only;refine bD (lS (sh (I:=λ_ c a=>a=st'/\c=(none,())) (Q:=λc a=>a=st'/\c=(none,())) ?_ (λ_ _ G=>G) ⟨rfl,rfl⟩) ?_)
  ·rintro x c a _ _ ⟨rfl,rfl⟩
   refine bD (su ?_);rw[q07 (by rw[b.pe];exact MY 1)];exact cr ⟨rfl,rfl⟩
  ·rintro c a ⟨rfl,rfl⟩
   exact cr (h _ b.sb b.up)
end
section
variable {prog:NF}{w:NJ}{A:NH}{E:Nu}{s:Nz}
theorem zZ{a kS:Addr}{e1:Nat}{keys:Array Value}{vs:NA}{P:Fin->Shared->Prop}(hka:a≠kS)(hk:s.heap.get? kS=some (seqObj "list" keys e))(ha:s.heap.get? a=some (seqObj "list" #[] e1))
  (h64:vs.length<64) (hz:vs.length<=sizeLine) (hkz:keys.size=vs.length) {kd:SortKind} {r:Keyed->Nat} (hkk:2<=vs.length->∀{Q:SortKind->Shared->Prop},Q kd s->wpAny (model prog w) A (keyKind' keys) Q E s)
  (C:2<=vs.length->w_ prog w A (· = s) (keys.zip vs.toArray) kd r)
  (h:∀ps:List Keyed,ps.Perm (keys.toList.zip vs)->ps.Pairwise (tE r)->P (.done (.ret .none)) {s with heap:=keyEnd s.heap a kS (ps.map (·.2)).toArray}) :
  wpAny (model prog w) A (ksk_end a false vs.toArray e1 (.ref kS) keys) P E s:=by
 have i:(keys.zip vs.toArray).toList=keys.toList.zip vs:=ksk_zip keys vs;have d:(keys.zip vs.toArray).size=vs.length:=by rw[Array.size_zip,hkz,MF,Nat.min_self]
 have dW:∀st:SortSt,(arrOf st).toList.Perm (keys.zip vs.toArray).toList->(arrOf st).toList.Pairwise (tE r)->failedOf st=none->wpAny (model prog w) A (ksk_tail a false e1 (.ref kS) st) P E s:=by
  intro st g b l;refine CB (vs:=vs) hka hk ha ⋯ (by have:=g.length_eq;simp at this;omega) l ?_;have:=h (arrOf st).toList (by rw[<- i];exact g) b
  rwa [show((arrOf st).toList.map (·.2)).toArray=(arrOf st).map (·.2) by rw[<- Array.toList_map]]at this
 have hs:vs.toArray.size=vs.length:=by simp
 unfold ksk_end;dsimp only;rw[q06 nofun]
 by_cases h2:vs.toArray.size<2
 ·rw[q07 h2,q07 h2]
  refine q04 (q05 ?_);rw[StateT.run_pure];refine q04 (q05 ?_);dsimp only;refine dW (SortSt.mk' general' (keys.zip vs.toArray) #[] 7 none) (List.Perm.refl _) ?_ rfl;have c:(keys.zip vs.toArray).toList.length<2:=by simp;omega
  show(keys.zip vs.toArray).toList.Pairwise _
  match(keys.zip vs.toArray).toList,c with
  | [],_=>exact .nil
  | [v],_=>exact List.pairwise_singleton _ _
  |_::_::_,c=>simp at c;omega
 ·rw[q06 h2,q06 h2]
  refine q04 (hkk ⋯ ?_);refine q04 (q0W (uq (a₀:=keys.zip vs.toArray) (kd:=kd) (r:=r) (C ⋯) (st:=SortSt.mk' kd (keys.zip vs.toArray) #[] 7 none)
   (Q:=λ_ st'=>SB (keys.zip vs.toArray) kd st'/\(arrOf st').toList.Pairwise (tE r)) ⟨List.Perm.refl _,rfl,rfl⟩ rfl (by rw[d];omega) (by rw[d];exact h64) (λst' k j=>⟨k,j⟩) _ rfl) ?_ λ_ _ e=>e)
  rintro⟨⟨⟩,st'⟩ s' ⟨rfl,B,b⟩;exact dW st' B.perm b B.failed
theorem yW{a:Addr}{f:Value}{vs:NA}{P:Fin->Shared->Prop}(ho:s.heap.get? a=some (seqObj "list" vs.toArray n))(h64:vs.length<64)(hz:vs.length<=sizeLine)(I:Nat->Array Value->Shared->Prop){e1:Nat}
  (ho1:(s.heap.update a (Obj.mapSeq λ_=>(#[]:Array Value))).get? a=some (seqObj "list" #[] e1)) (h0:I 0 #[] {s with heap:=sort1 s.heap a vs})
  (hI:∀i kA s',I i kA s'->kA.size=i/\s'.heap.get? a=some (seqObj "list" #[] e1)/\∃e,s'.heap.get? (s.heap.objs.size+1)=some (seqObj "list" kA e))
  (step:∀i x kA s',vs[i]?=some x->I i kA s'->wpAny (model prog w) A (call f [x]) (λv s2=>(∃e,s2.heap.get? (s.heap.objs.size+1)=some (seqObj "list" kA e)) /\
   I (i+1) (kA.push v) {s2 with heap:=s2.heap.update (s.heap.objs.size+1) (Obj.mapSeq (·.push v))}) (λ_ _=>False) s')
  (dW:∀keys s',I vs.length keys s'->∃(kd:SortKind) (r:Keyed->Nat),(2<=vs.length->∀{Q:SortKind->Shared->Prop},Q kd s'->wpAny (model prog w) A (keyKind' keys) Q E s') /\
   (2<=vs.length->w_ prog w A (· = s') (keys.zip vs.toArray) kd r) /\
   ∀ps:List Keyed,ps.Perm (keys.toList.zip vs)->ps.Pairwise (tE r)->P (.done (.ret .none)) {s' with heap:=keyEnd s'.heap a (s.heap.objs.size+1) (ps.map (·.2)).toArray}) :
  wpAny (model prog w) A (ksk_tree a f false) P E s:=by
 have o:a<s.heap.objs.size:=M4 ho;unfold ksk_tree;refine q04 (listItems_at ho rfl (q04 (listUpdate_at ho rfl ?_)));refine q04 (seqEpoch_at ho1 rfl (q04 (wpAny_newTuple (q04 (wpAny_newList (q0X ?_))))));show wpAny (model prog w) A _ P E {s with heap:=sort1 s.heap a vs};have z:((s.heap.update a (Obj.mapSeq λ_=>(#[]:Array Value))).push (seqObj "tuple" vs.toArray 0)).objs.size=s.heap.objs.size+1:=by rw[size_push',Heap.size_update]
 show wpAny (model prog w) A (ksk_rest a f false vs.toArray e1 (.ref ((s.heap.update a (Obj.mapSeq λ_=>(#[]:Array Value))).push (seqObj "tuple" vs.toArray 0)).objs.size)) P E _;rw[z];unfold ksk_rest;refine q04 (wpAny_rule ?_);rw[<- Array.forIn_toList];refine q04 (ksk_fold (λi s'=>∃kA,I i kA s') vs 0 _ ⟨#[],h0⟩ ?step ?done)
 case step=>
  rintro j x s' g ⟨kA,b⟩;simp only[Nat.zero_add]at b ⊢;have hj:j<vs.length:=(Mw.mp g).1;obtain⟨d,_,_⟩:=hI _ _ _ b;refine q04 (wpAny_attempt (q0W (step j x kA s' g b) (λv s2 m=>?_) λ_ _ p=>p.elim));obtain⟨⟨e,l⟩,ot⟩:=m;dsimp only;refine q04 (listUpdate_at l rfl ?_ ⋯ (M9 (Nat.le_of_eq (Array.size_push ..)) ⋯));exact q05 ⟨rfl,_,ot⟩
 case done=>
  rintro s' ⟨kA,b⟩;rw[Nat.zero_add]at b;obtain⟨d,k,e,c⟩:=hI _ _ _ b;obtain⟨kd,r,y,u,q⟩:=dW _ _ b;refine q04 (listItems_at c rfl ?_);exact zZ (MU (Nat.lt_succ_of_lt o)) c k h64 hz d y u q
theorem sorted_key64(hc:wpAny (model prog w) A.in1 (collect v) (λvs s2=>vs.length<64/\KeyRun prog w A E q Q vs s2) E s) :
  wpAny (model prog w) A (call (.builtin "sorted") [v] [(Str.ofString "key",.ref q)]) Q E s:=by
 refine call_function_entry_kw kind_sorted plain_sorted entry_sorted (ksk_s1 _ _) ?_;unfold Builtin.«sorted»;refine q04 (m:=checkCount "sorted" 1 1 _) (q05 ?_)
 refine q04 (q0W hc (λvs s2 ⟨c,n,h⟩=>?_) λ_ _ e=>e);refine q04 (wpAny_newList ?_ (hsz:=by omega));have a:(with1 s2 vs).get? s2.heap.objs.size=some (seqObj "list" vs.toArray 0):=ME _ rfl;show wpAny _ _ _ _ _ {s2 with heap:=with1 s2 vs};obtain⟨B,b⟩:=EF a;obtain⟨I,u,p,d,dW⟩:=h B b _ rfl;refine q04 (q0X (wpAny_call_entry_kw slot_list_sort ⟨_,a,rfl⟩ entry_list_sort ?body (ksk_l1 _ _)))
 case body=>
  show wpAny (model prog w) A.in1.in1 (Builtin.«list.sort» ⟨[.ref s2.heap.objs.size],[(Str.ofString "key",.ref q)]⟩) _ _ _;rw[ksk_t1];refine yW (s:={s2 with heap:=with1 s2 vs}) a c n I b u p d λkeys g o=>?_;obtain⟨l,r,z,y,x⟩:=dW keys g o;exact⟨l,r,λh2 {Q} hq=>z h2 Q hq,y,λi k j=>⟨_,rfl,q05 ⟨_,rfl,x i k j⟩⟩⟩
end
end TS
namespace L2
open PySem PySem.Spec PyProof.Rows QL PySem.W
def tI(K:Nv)(P:List Str->Prop)(g:List Str->Int)(t:TA):TE:=λσ H Q=>t σ H λxs H1=>∃(p a:Addr) (es:List VE),xs=[.ref p]/\H1 p=some (vG p a)/\H1 a=some (.dK (es.map IW))/\es.length<64/\(∀e,e∈es->aI K H1 e.2.1 (e.2.2.map V.str)/\P e.2.2) /\
 ∀zs:List VE,zs.Perm es->gE g zs->∀(H':Hp) (l:Addr),ax H1 H'->H1 l=none->H' l=some (.lst (zs.map C4))->Q (.ref l) H'
section
variable {X:Cx}{e:Expr}{t:TA}{p fp pos kpos:Pos}{k:Nat}{fx:Str}{ps:NG}{sp:Sp}{P:List Str->Prop}{g:List Str->Int}
theorem AK(hr:cO (k+2) X.A)(hc:X.calm=true)(hg:Gl X "sorted")(hm:X.mg "sorted"=none)(C:df X.prog X.w X.K X.mg X.base bd k fx ps sp)(hgf:Gl X fx)
  (hsp:∀l ss H Q E,aI X.K H l (ss.map V.str)->P ss->(∀t,H t=none->Q (.ref t) (aD H t (.tup [.int (g ss),.ref l])))->sp [.ref l] H Q E) (ha:PA X [e] t) (hdb:autoParam ((fx==("__debug__":Str))=false) zz2._auto_1)
  (he:autoParam (backTo pos (starEach [e] X.env)=(false,eval e X.env)::backTo pos (starEach [] X.env)) zz0._auto_1) (hpl:autoParam ((backTo pos (starEach [e] X.env)).any (·.1)=false) zz0._auto_1)
  (hall:autoParam ((backToKw pos (keywordEach [⟨some "key",.Name fx fp,kpos⟩] X.env)).all (·.1.isSome)=true) zz0._auto_1) (hkw:autoParam ((backToKw pos (keywordEach [⟨some "key",.Name fx fp,kpos⟩] X.env)).any (·.1.isNone)=false) zz0._auto_1)
  (hks:autoParam ((backToKw pos (keywordEach [⟨some "key",.Name fx fp,kpos⟩] X.env)).filterMap (·.1)=[Str.ofString "key"]) zz0._auto_1) :
  PE X (.Call (.Name "sorted" p) [e] [⟨some "key",.Name fx fp,kpos⟩] pos) (tI X.K P g t):=by
 obtain⟨f,fd,F,G,hkf,L⟩:=C.ex;intro j s σ H Q I h;have hb:bootBuiltins "sorted"=some (.builtin "sorted"):=by decide +kernel
 refine wpAny_Call_Name_kw (eO I hg hm hb ?_);refine callWith_kw (b6 (ha pos j s σ H _ I h) λus Z ⟨vs,H1,I1,r,q⟩=>?_) he hpl hall hkw;have hk:PK X [⟨some "key",.Name fx fp,kpos⟩] (lD (tC (.ref f)) oz):=EW (cH hgf G rfl hdb) Gb;refine b6 (hk pos j Z σ H1 (λS H2=>S=[.ref f]/\H2=H1) I1 ⟨rfl,rfl⟩) λws s2 ⟨S,H2,B,rz,ez,eh⟩=>?_;subst ez eh;rw[hks];obtain⟨T,a,y,rfl,hp,O,R,J,q3⟩:=q;obtain⟨u,rfl,ru⟩:=r.one;cases ru;obtain⟨u2,rfl,D⟩:=rz.one;cases D;show wpAny _ _ (call (.builtin "sorted") [.ref T] [(Str.ofString "key",.ref f)]) _ _ _;refine TS.sorted_key64 ?_;obtain⟨z,hd,vs,n,dd⟩:=rU B.hok O;obtain⟨ep,da⟩:=dd.dictAt;obtain⟨hv,_⟩:=B.hok _ _ hp;have m:vs.length=y.length:=by rw[<- n.length,My]
 have hz:y.length<=sizeLine:=by rw[My]at z;exact z
 refine TS.collect_src (PySem.W.kdl_values (knd:=bV X.prog X.w) (r:=T) (d:=a) (kvs:=vs) (ep:=ep)) (B.ok.hd hc) ⟨hv,da⟩ ⋯ λh' Y acc' kp c=>?_;have I3:=B.kept (t':=Y) kp;refine⟨by rw[Array.length_toList,c.1,m];exact R,?_⟩;refine Fi F L hr hsp I3 (by rw[Array.length_toList,c.1,m]) hz (λi x hx=>?_) J q3;obtain⟨kk,o⟩:=c.2 i x (by simpa using hx);have U:i<y.length:=by have:=(Mw.mp o).1;omega
 refine⟨y[i],Mv U,?_⟩;have:=oK n (i:=i) (a:=IW y[i]) (by rw[MA,Mv U];rfl);obtain⟨b,v,_,M⟩:=this;rw[o]at v;cases v;exact M
end
end L2
namespace SnM
open PySem L2 aB QL Win
def Gu(p:aB)(r c:Nat):Prop:=∀qs:List aB,qs.Nodup->(∀q∈qs,bf p r c q)->qs.length<64
theorem jr{α:Type}[DecidableEq α]:∀{l L:List α},l.Nodup->(∀x∈l,x∈L)->l.length<=L.length
 | [],_,_,_=>MZ _
 |x::l,L,hn,hs=>by
  have hx:x∈L:=hs x q0B;rw[q0b]at hn;have:=jr (l:=l) (L:=L.erase x) hn.2 λy hy=>(List.mem_erase_of_ne λe=>hn.1 (by rw[<- e];exact hy)).mpr (hs y (MR _ hy));rw[List.length_erase_of_mem hx]at this;have:=List.length_pos_of_mem hx;rw[MM];omega
def mapP(f:Nat->Nat)(p:aB):aB:=p.map (List.map f)
section
variable {f:Nat->Nat}
theorem CW(f0:f 0=0)(x:G4)(i:Nat):(x.map f).getD i 0=f (x.getD i 0):=by
 rw[q0A,q0A,MA];cases x[i]? with
 |none=>exact f0.symm
 |some y=>rfl
theorem vA(f0:f 0=0)(p:aB):aT (mapP f p)=mapP f (aT p):=by
 have h:((mapP f p).headD []).length=(p.headD []).length:=by
  cases p with
  |nil=>rfl
  |cons x p=>exact My ..
 unfold aT;rw[h];show _=List.map _ _;rw[MP];refine q0K λi _=>?_;show col (mapP f p) i=(col p i).map f;unfold col mapP;rw[<- List.map_reverse,MP,MP];exact q0K λx _=>CW f0 x i
theorem gW(f0:f 0=0):∀(n:Nat) (p:aB),aJ n (mapP f p)=mapP f (aJ n p)
 |0,_=>rfl
 |n+1,p=>by
  show aJ n (aT (mapP f p))=mapP f (aJ n (aT p));rw[vA f0,gW f0 n]
theorem xb(f0:f 0=0)(p:aB)(t:Nat):turned (mapP f p) t=mapP f (turned p t):=by
 unfold turned;have:mirror (mapP f p)=mapP f (mirror p):=by
  unfold mirror mapP;rw[MP,MP];exact q0K λx _=>(List.map_reverse ..).symm
 split
 ·rw[this];exact gW f0 _ _
 ·exact gW f0 _ _
theorem Fr(f0:f 0=0)(p:aB)(t l b x:Nat):cut (mapP f p) t l b x=mapP f (cut p t l b x):=by
 unfold cut mapP;rw[<- List.map_drop,<- List.map_take,MP,MP];exact q0K λy _=>by simp only[Function.comp_apply,List.map_take,List.map_drop]
def kz(p:aB)(r c:Nat):List aB:=((dJ r c).flatMap λw=>(List.range 8).map λu=>turned (AW p w) u).eraseDups
theorem oi(f0:f 0=0){p:aB}{r c:Nat}(h:(kz p r c).length<64):Gu (mapP f p) r c:=by
 intro qs d e;refine Nh (jr d (L:=(kz p r c).map (mapP f)) λq a=>?_) (by rw[My];exact h);obtain⟨t,l,b,x,u,h1,h2,j,i,g,rfl⟩:=e q a;rw[Fr f0,xb f0];refine Nj.mpr ⟨_,?_,rfl⟩;unfold kz;rw[List.mem_eraseDups];exact List.mem_flatMap.mpr ⟨_,kE.mpr ⟨t,l,b,x,rfl,h1,h2,j,i⟩,Nj.mpr ⟨u,List.mem_range.mpr g,by rw[kK]⟩⟩
end
def Ev(r c:Nat):aB:=(List.range r).map λi=>(List.range c).map λj=>i*c+j+1
theorem EQ(hp:rect p r c)(hc:0<c):∃f:Nat->Nat,f 0=0/\p=mapP f (Ev r c):=by
 refine⟨λk=>if k=0 then 0 else Br p ((k-1)/c) ((k-1)%c),rfl,jh hp ?_ λi j e a=>?_⟩
 ·refine⟨by simp[mapP,Ev],λx d=>?_⟩
  obtain⟨y,b,rfl⟩:=Nj.mp d;obtain⟨i,_,rfl⟩:=Nj.mp b;simp
 ·have h1:(i*c+j)/c=i:=by rw[Nat.mul_comm,Nat.mul_add_div hc,Nat.div_eq_of_lt a,Nat.add_zero]
  have h2:(i*c+j)%c=j:=by rw[Nat.mul_comm,Nat.mul_add_mod,Nat.mod_eq_of_lt a]
  unfold mapP Ev;show _=((List.map _ _).getD i []).getD j 0;rw[MP,q0A (l:=List.map _ _),MA,List.getElem?_range e];simp only[Option.map_some,q0L,Function.comp_apply];rw[q0A (l:=List.map _ _),MA,MA,List.getElem?_range a];simp only[Option.map_some,q0L,Nat.add_sub_cancel,Nat.add_one_ne_zero,if_false,h1,h2]
theorem Ji(hp:rect p r c)(hr:0<r)(hc:0<c)(h:r*c<=5):Gu p r c:=by
 obtain⟨f,a,e⟩:=EQ hp hc;rw[e];have hr5:r<=5:=M9 (Nat.le_mul_of_pos_right r hc) h;have hc5:c<=5:=M9 (Nat.le_mul_of_pos_left c hr) h;have:∀r,r<6->∀c,c<6->r*c<=5->(kz (Ev r c) r c).length<64:=by decide +kernel
 exact oi a (this r ⋯ c ⋯ h)
end SnM
namespace L2
open PySem PySem.Spec PyProof.Rows QL
section
variable {X:Cx}
def GV(K:Nv):R2:=λx y H Q=>∃(a b:Addr) (ss ts:NG),x=.ref a/\y=.ref b/\aI K H a (ss.map V.str)/\aI K H b (ts.map V.str)/\Q (.bl (TS.lexS ss ts)) H
theorem Gw(hu:X.A.units+64<cLine):bC X (compareOp .Lt) (GV X.K):=by
 intro pins s σ H x y v u Q I rx ry h;obtain⟨a,b,ss,ts,rfl,rfl,j,i,q⟩:=h;cases rx;cases ry
 obtain⟨its,d,g,_⟩:=I.list j;obtain⟨its2,c,e,_⟩:=I.list i;exact TS.lt_lists g.isList e.isList (dD d) (dD c) ⋯ ⟨.bl _,H,I,rfl,q⟩
theorem Fo{K:Nv}(hK:X.K=K)(hu:X.A.units+64<cLine):bC X (compareOp .Eq) (HI K):=by subst hK;exact FV hu
end
end L2
set_option maxHeartbeats 4000000
namespace Q38
open PySem L2 aB QL Win SnM
local macro_rules|`(tactic|ext)=>do
 let f(s:String):Lean.MacroM _:=(s.splitOn ",").toArray.mapM λx=>let i:=Lean.mkIdent (x.splitOn "."|>.foldl .mkStr .anonymous);`(Lean.Parser.Tactic.simpLemma|$i:term)
 let g(s:String):Lean.MacroM _:=(s.splitOn ",").toArray.mapM λx=>let i:=Lean.mkIdent (x.splitOn "."|>.foldl .mkStr .anonymous);`(Lean.Parser.Tactic.simpLemma|↓$i:term)
 let c:="mf,uE,ug,oN,vI,v9,kM,tZ,uh,vp,AY,tB,Dl,BS,GT,DA,zU,A4,yU,zy,Eh,tC,GF,rG,G1,F',JE,DP,Dc,tH,uC,tS,tj,tI,GV,wY,yN,GR,FW,uY,Du,xX,yD,xi,Ca,zV,zD,sM,ul,BZ,xH,G8,Hf,ym,u_,DG,oR,B8,Gq,tz,Gm,Gx,IQ,lD,oz,m8,Jh,EY,GD,Jc,Jy,GX,JA,uB,DN,Hc,Gk,IF,I_,yZ,uQ,DC,wI,Cu,CO,Hb,Hh,FY,zw,C5,sU,yY,L2.start,M8,List.map_nil,MM,List.length_nil,List.replicate,List.cons_append,Nn,Nat.reduceAdd,Nat.reduceSub,List.getElem?_cons_zero,M7,List.set_cons_zero,List.set_cons_succ,iD,Cx.blk,kl,yi,BN,DB,Cx.wish,Cx.nox,IN,jN";let d<-f (c++",J1,Lm,KI,LV,Kt,LC,Le,LO,EN,GY,DR,DK");let e<-f (c++",Na,Option.some.injEq,V.int.injEq,V.str.injEq,V.ref.injEq,V.bl.injEq,List.cons.injEq,and_true,true_and,exists_and_left,exists_eq_left',exists_eq_left,decide_eq_true_eq,Bool.not_eq_true',decide_eq_false_iff_not,Eu,Option.join_some,Nat.succ_eq_add_one,Nat.zero_add,exists_const,and_assoc,exists_eq,exists_eq',Int.reducePow,Int.reduceNeg,Int.reduceLT,or_true,true_or,reduceCtorEq,Int.zero_add,Bool.false_eq_true,Bool.not_true,Bool.not_false,Dh,FE,En,ET,AQ,Bh,xu,Bz,rI,fb,k8,Co,Dr,vi");let h<-g "reduceIte,IZ,Js,IX,Ja,I0,Jj,Jd,IV";let e:=e++h
 `(tactic|((try dsimp only[$d,*]);(try simp only[$e,*])))
set_option hygiene false in
local macro_rules|`(tactic|grind)=>`(tactic|(clear h1;refine al λN1 h1=>?_;ext))
set_option hygiene false in
local macro_rules|`(tactic|symm)=>`(tactic|(refine al λN1 h1=>?_;ext))
set_option hygiene false in
local macro_rules|`(tactic|walk_at "oc")=>`(tactic|(clear h2;refine al λN2 h2=>?_;ext))
set_option hygiene false in
local macro_rules|`(tactic|ac_nf)=>`(tactic|(refine al λN2 h2=>?_;ext))
set_option hygiene false in
local macro_rules|`(tactic|walk_at "f")=>`(tactic|refine F.ok sc (λvs H Q E h=>by cases h<;>subst_vars<;>rfl) (λcdv A outer s H vs Q E hr h=>?_))
set_option hygiene false in
local macro_rules|`(tactic|walk_at "x")=>`(tactic|refine F.okX sc (λvs H Q E h=>?_) (λcdv A outer s H vs Q E hr h=>?_))
set_option hygiene false in
local macro_rules|`(tactic|walk_at "c")=>`(tactic|exact⟨rfl,rfl,rfl,by decide +kernel,rfl,by decide +kernel,by decide +kernel⟩)
def eU(i:Nat):Stmt:=PySem.Challenge.pw_quiltlaw_k38_pictures_listed.main.body.getD i (.Pass ⟨0,0,0,0⟩)
def EB:Stmt->List Stmt
 | .ClassDef (body:=b) ..=>b
 |_=>[]
def iJ(i j:Nat):Stmt:=(EB (eU i)).getD j (.Pass ⟨0,0,0,0⟩)
section
variable {P:NF}{w:NJ}{K:W.Frag}{mg:ND}{base:Heap}
abbrev Eg(z:Str)(c:Nat):Bool:=!(Builtin.Str.occurrences z ⟨#[c]⟩ 0 z.length 1).isEmpty
abbrev my:Stmt:=eU 35
def ir(r:Ny)(z:Str):Bool:=r.all (Eg z)
inductive ic(vs:List V)(H:Hp)(Q:VK)(_E:XK):Prop
 |mk (r:Ny) (z:Str) (_:vs=[.str (tx r),.str z]) (_:r.length<=100000) (_:∀H',ax H H'->Q (.bl (ir r z)) H')
theorem xR:az ["text","letters"] ["text","letters"] (am my):=by walk_at "c"
theorem K7{i c:Nat}(h:(tx r).cps[i]?=some c):r[i]?=some c:=by
 rw[<- h];show r[i]?=r.toArray[i]?;simp
theorem JG(r:Ny):(tx r).cps.size=r.length:=by show r.toArray.size=_;simp
theorem yO{f:Addr}(F:c8 K "only_of" "only_of" my f fd)(nb:NB mg):↑aV 1 f fd ["text","letters"] ic:=by
 have sc:=xR;walk_at "f"
 ·obtain⟨r,z,rfl,hr',q⟩:=h
  refine⟨_,(ai (aG (aC (DH rfl) rfl nb.all Gc (aa (bW ["sign"] [1] rfl (bv.of (by kernel_rfl)) (by kernel_rfl) (Cf (ak 0))
    (λ_ _ _ _=>(au (i:=0) (by show(["sign","letters"]:List Str).Nodup;decide +kernel) rfl (Or.inl rfl))) (λ_ _ _ _=>bQ) (λ_ _ _ _=>(jv Bx (ak 0) (ak 1) (by with_unfolding_all rfl)))) ac)))),?_⟩
  ext;refine v3 (x:=tx r) (λi a σ d=>d=H/\a=((r.take i).map (Eg z)).map V.bl/\i<=r.length/\∃x,σ=[x,some (.str z)]) ⟨rfl,rfl,MZ _,_,rfl⟩ ?_ ?_ ?_ ?_
  ·rintro i a σ d ⟨_,rfl,k,_⟩
   rw[My,My,Nf];exact aY ⋯
  ·rintro i a σ d ⟨_,_,h,_⟩
   rw[JG];exact h
  ·rintro i c a σ d m ⟨rfl,rfl,k,y,rfl⟩
   have b:=K7 m;have g:=(Mw.mp b).1;ext;refine⟨?_,g⟩;rw[q0E,b];simp
  ·rintro a σ d ⟨rfl,rfl,_⟩ l j
   refine⟨_,aI.of ae,?_⟩;rw[JG,Nd];have e:(r.map (Eg z)).all id=ir r z:=by unfold ir;rw[List.all_map];rfl
   rw[e];exact q _ (af j)
abbrev me:Stmt:=eU 36
abbrev yJ:Str:="ABCDEFGHIJKLMNOPQRSTUVWXYZ"
def dg(r:Ny):Bool:=decide (1<=r.length)&&decide (r.length<=4)&&ir r yJ
inductive ke(vs:List V)(H:Hp)(Q:VK)(_E:XK):Prop
 |mk (r:Ny) (_:vs=[.str (tx r)]) (_:r.length<=100000) (_:∀H',ax H H'->Q (.bl (dg r)) H')
theorem xJ:az ["text"] ["text"] (am me):=by walk_at "c"
theorem xz{f:Addr}{t1 t2:Tok}(F:c8 K "is_name" "is_name" me f fd)(nb:NB mg)(ya7:mg "LONGEST_NAME"=some (.int 4 t1))(ya1:mg "CAPITALS"=some (.str "ABCDEFGHIJKLMNOPQRSTUVWXYZ" t2))(yah:↑df 1 "only_of" ["text","letters"] ic):↑aV 2 f fd ["text"] ke:=by
 have sc:=xJ;walk_at "f"
 ·obtain⟨r,rfl,a,q⟩:=h
  refine⟨_,(ai (aG (oH (wJ (bC.m0 iy) (bC.m0 iy) aj (aC aS rfl nb.len bi (aa (ak 0) ac)) (cH (v:=.int 4) rfl ya7 ⟨_,rfl⟩)) (uk (aH yah (hr.mono nofun) rfl aM (aa (ak 0) (aa (cH (v:=.str "ABCDEFGHIJKLMNOPQRSTUVWXYZ") rfl ya1 ⟨_,rfl⟩) ac))))))),?_⟩;ext;refine⟨by rw[aw];exact ar ⋯,?_⟩;rw[aw];unfold dg at q
  by_cases h1:1<=r.length
  ·rw[q07 ⋯]
   by_cases h2:r.length<=4
   ·rw[q07 ⋯]
    refine⟨r,_,rfl,a,λc b=>?_⟩;have z:=q c b;rw[q09 h1,q09 h2]at z;exact z
   ·rw[q06 ⋯]
    have z:=q H (λ_ _ e=>e);rw[q09 h1,q08 h2]at z;exact z
  ·rw[q06 ⋯]
   have z:=q H (λ_ _ e=>e);rw[q08 h1]at z;exact z
abbrev fR:Stmt:=iJ 37 0
inductive dm(K:W.Frag)(vs:List V)(H:Hp)(Q:VK)(_E:XK):Prop
 |mk (a C dx l:Addr) (n:Ny) (c:Int) (ps:aB) (_:vs=[.ref a,.str (tx n),.int c,.ref l]) (_:H a=some (.ins C dx [])) (_:iF K C) (_:ay K C "name") (_:ay K C "cost") (_:ay K C "part_names") (_:H l=some (.lst (av ps))) (_:ps.length<=1000) (_:(∀r∈n::ps,r.length<=100000)) (_:((∀r∈n::ps,dg r=true)/\1<=c/\c<=9)) (_:∀H',ax H H'->Q .non (aD H' a (.ins C dx [("name",.str (tx n)),("cost",.int c),("part_names",.ref l)])))
theorem fo{st:Stmt}:PS X st (λ_ _ _=>False):=λ_ _ _ _ _ _ h=>h.elim
theorem ue:az ["self","name","cost","part_names","text"] ["self","name","cost","part_names"] (am fR):=by walk_at "c"
theorem tL{f:Addr}(F:c8 K "__init__" "Rule.__init__" fR f fd)(nb:NB mg)(yal:↑df 2 "is_name" ["text"] ke):↑aV 3 f fd ["self","name","cost","part_names"] (dm K):=by
 have sc:=ue;walk_at "f"
 ·obtain⟨a,C,G,l,n,c,b,rfl,U,I,R,O,M,T,hpl,j,ok,good⟩:=h
  refine⟨_,(ad (aX PassesOwn.never rfl (aR (aF xv (bh (aa (ak 1) ac)) (ak 3))) (q02 4 sc.nd)
   (ai (bB (dE (cR (aH yal (hr.mono nofun) rfl aM (aa (ak 4) ac)) λ_=>rfl))
   (ai fo)
   aO)))
   (ad (bB (PW.pt (il (aK (bC.m0 sH) (ak 2) aj (aZ _)) (gX (aK (bC.m0 mX) (ak 2) aj (aZ _)))))
   (ai fo)
   aO)
   (ad (cw (ak 0) (ak 1) rfl)
   (ad (cw (ak 0) (ak 2) rfl)
   (ai (cw (ak 0) (ak 3) rfl)))))),?_⟩
  ext;refine⟨ar ⋯,λp S=>?_⟩;have m1:ax H (aD H p (.lst [V.str (tx n)])):=af S;have L:aD H p (.lst [V.str (tx n)]) p=some (.lst [V.str (tx n)]):=ae;generalize aD H p (.lst [V.str (tx n)])=H1 at m1 L ⊢;refine⟨_,L,_,m1 _ _ T,by rw[ao];exact ar (by simp;omega),λm z=>?_⟩;have D:[V.str (tx n)]++av b=av (n::b):=rfl;rw[D];have J:ax H1 (aD H1 m (.lst (av (n::b)))):=af z;have o:aD H1 m (.lst (av (n::b))) m=some (.lst (av (n::b))):=ae;generalize aD H1 m (.lst (av (n::b)))=H2 at J o ⊢;generalize hqs:n::b=qs at j ok o ⊢;have u:=m1.trans J;refine⟨⟨_,aI.of o⟩,bz (xs:=av qs) (λi σ k=>ax H2 k/\∃x,σ=[some (.ref a),some (.str (tx n)),some (.int c),some (.ref l),x]) ⟨λ_ _ e=>e,_,rfl⟩ (λi σ k _ h=>aI.of (h.1 _ _ o)) ?_ ?_⟩
  ·rintro i v σ k y ⟨r,x,rfl⟩
   have B:i<qs.length:=by have:=(Mw.mp y).1;rwa [ao]at this
   rw[br B]at y;cases y;ext;refine⟨_,rfl,j _ (MG B),λH3 q=>⟨_,rfl,?_⟩⟩;rw[q06 (by rw[ok.1 _ (MG B)];decide)];exact r.trans q
  ·rintro σ k ⟨r,x,rfl⟩
   have d:=u.trans r;ext;rw[q06 ⋯,q06 ⋯];have g:=good k d;have l1:(cG "name" (V.str (tx n)) []).length<=1:=di _ _ _;have l2:(cG "cost" (V.int c) (cG "name" (V.str (tx n)) [])).length<=2:=M9 (di _ _ _) ⋯;have d1:¬ (("name":Str)="cost"):=by decide +kernel
   have Z:¬ (("name":Str)="part_names"):=by decide +kernel
   have Y:¬ (("cost":Str)="part_names"):=by decide +kernel
   have e:cG "part_names" (V.ref l) (cG "cost" (V.int c) (cG "name" (V.str (tx n)) []))=[(("name":Str),V.str (tx n)),(("cost":Str),V.int c),(("part_names":Str),V.ref l)]:=by
    simp only[cG,q06 d1,q06 Z,q06 Y]
   refine⟨C,G,[],d _ _ U,I,R,by simp,C,G,_,ae,I,O,⋯,C,G,_,ae,I,M,⋯,?_⟩;rw[ld,ld,e];exact g
def a_(a:Addr)(H H':Hp):Prop:=∀b o,b≠a->H b=some o->H' b=some o
theorem a_.of(s:ax H H'):a_ a H H':=λb o _ e=>s b o e
theorem a_.put(s:a_ a H H'):a_ a H (aD H' a o):=λb u hb e=>by rw[aq hb];exact s b u hb e
theorem a_.then{H2:Hp}(s:a_ a H H')(t:ax H' H2):a_ a H H2:=λb u hb e=>t b u (s b u hb e)
theorem a_.trans{H2:Hp}(s:a_ a H H')(t:a_ a H' H2):a_ a H H2:=λb u hb e=>t b u hb (s b u hb e)
abbrev Iq:Str:="abcdefghijklmnopqrstuvwxyz"
def i5(r:Ny):Bool:=decide (r.length=1)&&ir r Iq
def kh(n:Ny)(ps:aB)(c:Int):Prop:=(∀r∈n::ps,dg r=true)/\1<=c/\c<=9
abbrev f_:Stmt:=iJ 38 0
inductive ii(K:W.Frag)(vs:List V)(H:Hp)(Q:VK)(_E:XK):Prop
 |mk (a C dx:Addr) (n sg:Ny) (c:Int) (_:vs=[.ref a,.str (tx n),.int c,.str (tx sg)]) (_:H a=some (.ins C dx [])) (_:iF K C) (_:(ay K C "name"/\ay K C "cost"/\ay K C "part_names"/\ay K C "sign")) (_:n.length<=100000) (_:sg.length<=100000) (_:(kh n [] c/\i5 sg=true)) (_:∀(l:Addr) (H':Hp),a_ a H H'->H l=none->H' l=some (.lst [])->H' a=some (.ins C dx [("name",.str (tx n)),("cost",.int c),("part_names",.ref l),("sign",.str (tx sg))])->Q .non H')
theorem tK:az ["self","name","cost","sign"] ["self","name","cost","sign"] (am f_):=by walk_at "c"
theorem tT{f:Addr}{t3:Tok}(F:c8 K "__init__" "CellRule.__init__" f_ f fd)(nb:NB mg)(yam:mg "SMALLS"=some (.str "abcdefghijklmnopqrstuvwxyz" t3))
  (yah:↑df 1 "only_of" ["text","letters"] ic) (zfa:↑Bc 3 "Rule" "__init__" ["self","name","cost","part_names"] (dm K)):↑aV 4 f fd ["self","name","cost","sign"] (ii K):=by
 have sc:=tK;walk_at "f"
 ·obtain⟨a,C,d,n,i,c,rfl,u,z,⟨I,G,D,B⟩,J,o,⟨ok,m⟩,good⟩:=h
  refine⟨_,(ad (ba (nX zfa (hr.mono nofun) rfl aM (aa (ak 0) (aa (ak 1) (aa (ak 2) (aa (bh ac) ac))))))
   (ad (bB (PW.pt (il (aK rj (aC aS rfl nb.len bi (aa (ak 3) ac)) aj (aZ _)) (gX (dE (cR (aH yah (hr.mono nofun) rfl aM (aa (ak 3) (aa (cH (v:=.str "abcdefghijklmnopqrstuvwxyz") rfl yam ⟨_,rfl⟩) ac))) λ_=>rfl)))))
   (ai fo)
   aO)
   (ai (cw (ak 0) (ak 3) rfl)))),?_⟩
  ext;refine⟨MZ _,λl k=>?_⟩;have m1:ax H (aD H l (.lst [])):=af k;have p:aD H l (.lst []) l=some (.lst []):=ae;generalize aD H l (.lst [])=H1 at m1 p ⊢;have j:l≠a:=λe=>by rw[e,u]at k;cases k
  refine⟨a,C,d,l,n,c,[],rfl,m1 _ _ u,z,I,G,D,p,by simp,λr hr=>by rw[show r=n by simpa using hr];exact J,ok,λH2 g=>?_⟩;have q:a_ a H (aD H2 a (.ins C d [("name",.str (tx n)),("cost",.int c),("part_names",.ref l)])):=(a_.of (m1.trans g)).put;have y:aD H2 a (.ins C d [("name",.str (tx n)),("cost",.int c),("part_names",.ref l)]) a=some (.ins C d [("name",.str (tx n)),("cost",.int c),("part_names",.ref l)]):=ae;have x:aD H2 a (.ins C d [("name",.str (tx n)),("cost",.int c),("part_names",.ref l)]) l=some (.lst []):=by rw[aq j];exact g _ _ p
  generalize aD H2 a (.ins C d [("name",.str (tx n)),("cost",.int c),("part_names",.ref l)])=H3 at q y x ⊢
  try dsimp only
  obtain⟨h1,L⟩:i.length=1/\ir i Iq=true:=by
   have h:=m;unfold i5 at h;rw[q0O,q0a]at h;exact h
  refine⟨by rw[aw];exact ar ⋯,?_⟩;rw[aw,q06 (λh=>h ⋯)];refine⟨i,_,rfl,o,λH4 b=>⟨_,rfl,?_⟩⟩;rw[q06 (by rw[L];decide)];have R:¬ (("name":Str)="sign"):=by decide +kernel
  have O:¬ (("cost":Str)="sign"):=by decide +kernel
  have M:¬ (("part_names":Str)="sign"):=by decide +kernel
  have e:cG "sign" (V.str (tx i)) [(("name":Str),V.str (tx n)),(("cost":Str),V.int c),(("part_names":Str),V.ref l)]=[(("name":Str),V.str (tx n)),(("cost":Str),V.int c),(("part_names":Str),V.ref l),(("sign":Str),V.str (tx i))]:=by
   simp only[cG,q06 R,q06 O,q06 M]
  refine⟨C,d,_,b _ _ y,z,B,by simp,?_⟩;rw[e];exact good l _ (q.then b).put k (by rw[aq j];exact b _ _ x) ae
inductive dw(K:W.Frag)(vs:List V)(H:Hp)(Q:VK)(_E:XK):Prop
 |mk (a C dx:Addr) (n o1 o2:Ny) (c:Int) (_:vs=[.ref a,.str (tx n),.int c,.str (tx o1),.str (tx o2)]) (_:H a=some (.ins C dx [])) (_:iF K C) (_:(ay K C "name"/\ay K C "cost"/\ay K C "part_names"/\ay K C "one"/\ay K C "other")) (_:n.length<=100000) (_:o1.length<=100000) (_:o2.length<=100000) (_:kh n [o1,o2] c) (_:∀(l:Addr) (H':Hp),a_ a H H'->H l=none->H' l=some (.lst (av [o1,o2]))->H' a=some (.ins C dx [("name",.str (tx n)),("cost",.int c),("part_names",.ref l),("one",.str (tx o1)),("other",.str (tx o2))])->Q .non H')
theorem ww{c:Int}:cG "other" (V.str (tx o2)) (cG "one" (V.str (tx o1)) [(("name":Str),V.str (tx n)),(("cost":Str),V.int c),(("part_names":Str),V.ref l)])=[(("name":Str),V.str (tx n)),(("cost":Str),V.int c),(("part_names":Str),V.ref l),(("one":Str),V.str (tx o1)),(("other":Str),V.str (tx o2))]:=by
 have j:¬ (("name":Str)="one"):=by decide +kernel
 have i:¬ (("cost":Str)="one"):=by decide +kernel
 have g:¬ (("part_names":Str)="one"):=by decide +kernel
 have e:¬ (("name":Str)="other"):=by decide +kernel
 have d:¬ (("cost":Str)="other"):=by decide +kernel
 have b:¬ (("part_names":Str)="other"):=by decide +kernel
 have a:¬ (("one":Str)="other"):=by decide +kernel
 simp only[cG,q06 j,q06 i,q06 g,q06 e,q06 d,q06 b,q06 a]
abbrev d9:Stmt:=iJ 39 0
theorem oF:az ["self","name","cost","one","other"] ["self","name","cost","one","other"] (am d9):=by walk_at "c"
theorem oB{f:Addr}(F:c8 K "__init__" "BesideRule.__init__" d9 f fd)(nb:NB mg)
  (zfa:↑Bc 3 "Rule" "__init__" ["self","name","cost","part_names"] (dm K)):↑aV 4 f fd ["self","name","cost","one","other"] (dw K):=by
 have sc:=oF;walk_at "f"
 ·obtain⟨a,C,b,n,g,d,c,rfl,v,q,⟨I,G,D,B,z⟩,J,o,m,ok,good⟩:=h
  refine⟨_,(ad (ba (nX zfa (hr.mono nofun) rfl aM (aa (ak 0) (aa (ak 1) (aa (ak 2) (aa (bh (aa (ak 3) (aa (ak 4) ac))) ac))))))
   (ad (cw (ak 0) (ak 3) rfl)
   (ai (cw (ak 0) (ak 4) rfl)))),?_⟩
  ext;refine⟨ar ⋯,λl k=>?_⟩;have m1:ax H (aD H l (.lst [V.str (tx g),V.str (tx d)])):=af k;have p:aD H l (.lst [V.str (tx g),V.str (tx d)]) l=some (.lst (av [g,d])):=ae;generalize aD H l (.lst [V.str (tx g),V.str (tx d)])=H1 at m1 p ⊢;have j:l≠a:=λe=>by rw[e,v]at k;cases k
  refine⟨a,C,b,l,n,c,[g,d],rfl,m1 _ _ v,q,I,G,D,p,by simp,λr hr=>?_,ok,λH2 i=>?_⟩
  ·have L:r=n\/r=g\/r=d:=by simpa using hr
   rcases L with rfl | rfl | rfl
   ·exact J
   ·exact o
   ·exact m
  ·have u:a_ a H (aD H2 a a⁻¹):=(a_.of (m1.trans i)).put
   have y:aD H2 a a⁻¹ a=some a⁻¹:=ae;have x:aD H2 a a⁻¹ l=some (.lst (av [g,d])):=by rw[aq j];exact i _ _ p
   generalize aD H2 a a⁻¹=H3 at u y x ⊢
   try dsimp only
   refine⟨C,b,_,y,q,B,by simp,C,b,_,ae,q,z,?_,?_⟩
   ·exact Nh (di _ _ _) (by simp)
   ·rw[ld,ww]
    exact good l _ u.put k (by rw[aq j];exact x) ae
abbrev eZ:Stmt:=iJ 40 0
theorem qZ:az ["self","name","cost","one","other"] ["self","name","cost","one","other"] (am eZ):=by walk_at "c"
theorem qL{f:Addr}(F:c8 K "__init__" "AboveRule.__init__" eZ f fd)(nb:NB mg)
  (zfa:↑Bc 3 "Rule" "__init__" ["self","name","cost","part_names"] (dm K)):↑aV 4 f fd ["self","name","cost","one","other"] (dw K):=by
 have sc:=qZ;walk_at "f"
 ·obtain⟨a,C,b,n,g,d,c,rfl,v,q,⟨I,G,D,B,z⟩,J,o,m,ok,good⟩:=h
  refine⟨_,(ad (ba (nX zfa (hr.mono nofun) rfl aM (aa (ak 0) (aa (ak 1) (aa (ak 2) (aa (bh (aa (ak 3) (aa (ak 4) ac))) ac))))))
   (ad (cw (ak 0) (ak 3) rfl)
   (ai (cw (ak 0) (ak 4) rfl)))),?_⟩
  ext;refine⟨ar ⋯,λl k=>?_⟩;have m1:ax H (aD H l (.lst [V.str (tx g),V.str (tx d)])):=af k;have p:aD H l (.lst [V.str (tx g),V.str (tx d)]) l=some (.lst (av [g,d])):=ae;generalize aD H l (.lst [V.str (tx g),V.str (tx d)])=H1 at m1 p ⊢;have j:l≠a:=λe=>by rw[e,v]at k;cases k
  refine⟨a,C,b,l,n,c,[g,d],rfl,m1 _ _ v,q,I,G,D,p,by simp,λr hr=>?_,ok,λH2 i=>?_⟩
  ·have L:r=n\/r=g\/r=d:=by simpa using hr
   rcases L with rfl | rfl | rfl
   ·exact J
   ·exact o
   ·exact m
  ·have u:a_ a H (aD H2 a a⁻¹):=(a_.of (m1.trans i)).put
   have y:aD H2 a a⁻¹ a=some a⁻¹:=ae;have x:aD H2 a a⁻¹ l=some (.lst (av [g,d])):=by rw[aq j];exact i _ _ p
   generalize aD H2 a a⁻¹=H3 at u y x ⊢
   try dsimp only
   refine⟨C,b,_,y,q,B,by simp,C,b,_,ae,q,z,?_,?_⟩
   ·exact Nh (di _ _ _) (by simp)
   ·rw[ld,ww]
    exact good l _ u.put k (by rw[aq j];exact x) ae
inductive hV(K:W.Frag)(vs:List V)(H:Hp)(Q:VK)(_E:XK):Prop
 |mk (a C dx:Addr) (n o1:Ny) (c t:Int) (_:vs=[.ref a,.str (tx n),.int c,.str (tx o1),.int t]) (_:H a=some (.ins C dx [])) (_:iF K C) (_:(ay K C "name"/\ay K C "cost"/\ay K C "part_names"/\ay K C "part"/\ay K C "turning")) (_:n.length<=100000) (_:o1.length<=100000) (_:(kh n [o1] c/\0<=t/\t<=7)) (_:∀(l:Addr) (H':Hp),a_ a H H'->H l=none->H' l=some (.lst (av [o1]))->H' a=some (.ins C dx [("name",.str (tx n)),("cost",.int c),("part_names",.ref l),("part",.str (tx o1)),("turning",.int t)])->Q .non H')
theorem Dk{c t:Int}:cG "turning" (V.int t) (cG "part" (V.str (tx o1)) [(("name":Str),V.str (tx n)),(("cost":Str),V.int c),(("part_names":Str),V.ref l)])=[(("name":Str),V.str (tx n)),(("cost":Str),V.int c),(("part_names":Str),V.ref l),(("part":Str),V.str (tx o1)),(("turning":Str),V.int t)]:=by
 have j:¬ (("name":Str)="part"):=by decide +kernel
 have i:¬ (("cost":Str)="part"):=by decide +kernel
 have g:¬ (("part_names":Str)="part"):=by decide +kernel
 have e:¬ (("name":Str)="turning"):=by decide +kernel
 have d:¬ (("cost":Str)="turning"):=by decide +kernel
 have b:¬ (("part_names":Str)="turning"):=by decide +kernel
 have a:¬ (("part":Str)="turning"):=by decide +kernel
 simp only[cG,q06 j,q06 i,q06 g,q06 e,q06 d,q06 b,q06 a]
abbrev gb:Stmt:=iJ 41 0
theorem ux:az ["self","name","cost","part","turning"] ["self","name","cost","part","turning"] (am gb):=by walk_at "c"
theorem uF{f:Addr}(F:c8 K "__init__" "TurnRule.__init__" gb f fd)(nb:NB mg)
  (zfa:↑Bc 3 "Rule" "__init__" ["self","name","cost","part_names"] (dm K)):↑aV 4 f fd ["self","name","cost","part","turning"] (hV K):=by
 have sc:=ux;walk_at "f"
 ·obtain⟨a,C,b,n,d,c,t,rfl,q,o,⟨D,B,z,y,x⟩,G,k,⟨ok,t0,t7⟩,good⟩:=h
  refine⟨_,(ad (ba (nX zfa (hr.mono nofun) rfl aM (aa (ak 0) (aa (ak 1) (aa (ak 2) (aa (bh (aa (ak 3) ac)) ac))))))
   (ad (bB (PW.pt (il (aK (bC.m0 sH) (ak 4) aj (aZ _)) (gX (aK (bC.m0 mX) (ak 4) aj (aZ _)))))
   (ai fo)
   aO)
   (ad (cw (ak 0) (ak 3) rfl)
   (ai (cw (ak 0) (ak 4) rfl))))),?_⟩
  ext;refine⟨ar ⋯,λl j=>?_⟩;have m1:ax H (aD H l (.lst [V.str (tx d)])):=af j;have m:aD H l (.lst [V.str (tx d)]) l=some (.lst (av [d])):=ae;generalize aD H l (.lst [V.str (tx d)])=H1 at m1 m ⊢;have i:l≠a:=λe=>by rw[e,q]at j;cases j
  refine⟨a,C,b,l,n,c,[d],rfl,m1 _ _ q,o,D,B,z,m,by simp,λr hr=>?_,ok,λH2 g=>?_⟩
  ·have I:r=n\/r=d:=by simpa using hr
   rcases I with rfl | rfl
   ·exact G
   ·exact k
  ·have p:a_ a H (aD H2 a a⁻¹):=(a_.of (m1.trans g)).put
   have v:aD H2 a a⁻¹ a=some a⁻¹:=ae;have u:aD H2 a a⁻¹ l=some (.lst (av [d])):=by rw[aq i];exact g _ _ m
   generalize aD H2 a a⁻¹=H3 at p v u ⊢
   try dsimp only
   rw[q06 ⋯,q06 ⋯];refine⟨C,b,_,v,o,y,by simp,C,b,_,ae,o,x,?_,?_⟩
   ·exact Nh (di _ _ _) (by simp)
   ·rw[ld,Dk]
    exact good l _ p.put j (by rw[aq i];exact u) ae
abbrev fq:Stmt:=iJ 37 1
inductive cK(K:W.Frag)(vs:List V)(H:Hp)(Q:VK)(_E:XK):Prop
 |mk (a C dx l:Addr) (fs:List (Str×V)) (ps:aB) (_:vs=[.ref a]) (_:H a=some (.ins C dx fs)) (_:iF K C) (_:ay K C "part_names") (_:fs.lookup ("part_names":Str)=some (V.ref l)) (_:H l=some (.lst (av ps))) (_:fC H ps Q)
theorem ql:az ["self"] ["self"] (am fq):=by walk_at "c"
theorem d8{f:Addr}(F:c8 K "parts" "Rule.parts" fq f fd)(nb:NB mg):↑aV 1 f fd ["self"] (cK K):=by
 have sc:=ql;walk_at "f"
 ·obtain⟨a,C,j,l,fs,ps,rfl,i,k,c,d,g,q⟩:=h
  refine⟨_,(ai (aG (cq bR rfl nb.list c7 (aa (bE (ak 0) rfl) ac)))),?_⟩;ext;refine⟨C,j,fs,i,k,c,V.ref l,d,l,rfl,_,.inl (aI.of g),λe b=>q e _ b ae (af b)⟩
abbrev HS(n:Ny)(c:Int)(l:Addr)(sg:Ny):List (Str×V):=[("name",.str (tx n)),("cost",.int c),("part_names",.ref l),("sign",.str (tx sg))]
abbrev FA(n:Ny)(c:Int)(l:Addr)(o1 o2:Ny):List (Str×V):=[("name",.str (tx n)),("cost",.int c),("part_names",.ref l),("one",.str (tx o1)),("other",.str (tx o2))]
abbrev FJ(n:Ny)(c:Int)(l:Addr)(o1:Ny)(t:Int):List (Str×V):=[("name",.str (tx n)),("cost",.int c),("part_names",.ref l),("part",.str (tx o1)),("turning",.int t)]
theorem jm(h:dg r=true):1<=r.length/\r.length<=4:=by
 unfold dg at h;rw[q0O,q0O,q0a,q0a]at h;exact h.1
theorem Bb(h:i5 r=true):r.length=1:=by
 unfold i5 at h;rw[q0O,q0a]at h;exact h.1
theorem al{a b:TS}{D:fE}{σ:St}(h:∀N:St->Hp->Prop,(∀σ2 H2,b D σ2 H2->N σ2 H2)->a {D with nx:=N} σ H):AY a b D σ H:=h (b D) λ_ _ z=>z
abbrev mz:Stmt:=eU 68
inductive pC(vs:List V)(H:Hp)(Q:VK)(_E:XK):Prop
 |mk (i:Int) (_:vs=[.int i]) (_:Q (.bl true) H)
theorem yc:az ["_law_x"] ["_law_x"] (am mz):=by walk_at "c"
theorem xN{f:Addr}(F:c8 K "_law_whole" "_law_whole" mz f fd)(nb:NB mg):↑aV 1 f fd ["_law_x"] pC:=by
 have sc:=yc;walk_at "f"
 ·obtain⟨i,rfl,q⟩:=h
  refine⟨_,(ai (aG (oH (aC bI rfl nb.isinstance bG (aa (ak 0) (aa (ib (v:=.ty "int") rfl nb.int GQ rfl) ac))) (uk (Ga (aC bI rfl nb.isinstance bG (aa (ak 0) (aa (ib (v:=.ty "bool") rfl nb.bool Ff rfl) ac)))))))),?_⟩;ext;refine⟨_,gK.int i,_,iL K _,?_⟩;ext;refine⟨_,gK.int i,_,uH K,?_⟩;exact q
structure RV where
 n:List Nat
 c:Int
 o1:List Nat
 o2:List Nat
 sg:List Nat
 t:Int
abbrev Yaa:=List (Nat×RV)
structure RC where
 rr:Addr
 cc:Addr
 cb:Addr
 ca:Addr
 ct:Addr
def RC.at(R:RC)(k:Nat):Addr:=match k with | 0=>R.cc | 1=>R.cb | 2=>R.ca | _=>R.ct
def wF(k:Nat)(l:Addr)(v:RV):List (Str×V):=match k with | 0=>HS v.n v.c l v.sg | 1=>FA v.n v.c l v.o1 v.o2 | 2=>FA v.n v.c l v.o1 v.o2 | _=>FJ v.n v.c l v.o1 v.t
def cv(k:Nat)(v:RV):aB:=match k with | 0=>[] | 1=>[v.o1,v.o2] | 2=>[v.o1,v.o2] | _=>[v.o1]
def Ko(k:Nat)(v:RV):Prop:=match k with | 0=>kh v.n [] v.c/\i5 v.sg=true | 1=>kh v.n [v.o1,v.o2] v.c | 2=>kh v.n [v.o1,v.o2] v.c | _=>kh v.n [v.o1] v.c/\0<=v.t/\v.t<=7
structure RV.small(v:RV):Prop where
 n:v.n.length<=1000
 o1:v.o1.length<=1000
 o2:v.o2.length<=1000
 sg:v.sg.length<=1000
structure RV.good(v:RV):Prop where
 n:dg v.n=true
 c1:1<=v.c
 c9:v.c<=9
 o1:dg v.o1=true
 o2:dg v.o2=true
 sg:i5 v.sg=true
 t0:0<=v.t
 t7:v.t<=7
theorem RV.good.small{v:RV}(g:v.good):v.small:=⟨by have:=jm g.n;omega,by have:=jm g.o1;omega,by have:=jm g.o2;omega,by have:=Bb g.sg;omega⟩
theorem RV.good.ok{v:RV}(g:v.good):∀k,Ko k v
 |0=>⟨⟨λr hr=>by rw[show r=v.n by simpa using hr];exact g.n,g.c1,g.c9⟩,g.sg⟩
 |1=>⟨λr hr=>by rcases(show r=v.n\/r=v.o1\/r=v.o2 by simpa using hr) with rfl | rfl | rfl<;>first | exact g.n | exact g.o1 | exact g.o2,g.c1,g.c9⟩
 |2=>⟨λr hr=>by rcases(show r=v.n\/r=v.o1\/r=v.o2 by simpa using hr) with rfl | rfl | rfl<;>first | exact g.n | exact g.o1 | exact g.o2,g.c1,g.c9⟩
 |_+3=>⟨⟨λr hr=>by rcases(show r=v.n\/r=v.o1 by simpa using hr) with rfl | rfl<;>first | exact g.n | exact g.o1,g.c1,g.c9⟩,g.t0,g.t7⟩
def gu(R:RC)(H:Hp)(k:Nat)(a:Addr)(v:RV):Prop:=∃dx l,H a=some (.ins (R.at k) dx (wF k l v))/\H l=some (.lst (av (cv k v)))
theorem gu.up(r:gu R H k a v)(s:ax H H'):gu R H' k a v:=by
 obtain⟨b,l,h1,h2⟩:=r;exact⟨b,l,s _ _ h1,s _ _ h2⟩
structure mR(K:W.Frag)(R:RC):Prop where
 i0:jE K R.cc
 i1:jE K R.cb
 i2:jE K R.ca
 i3:jE K R.ct
 a0:ay K R.cc "name"/\ay K R.cc "cost"/\ay K R.cc "part_names"/\ay K R.cc "sign"
 a1:ay K R.cb "name"/\ay K R.cb "cost"/\ay K R.cb "part_names"/\ay K R.cb "one"/\ay K R.cb "other"
 a2:ay K R.ca "name"/\ay K R.ca "cost"/\ay K R.ca "part_names"/\ay K R.ca "one"/\ay K R.ca "other"
 a3:ay K R.ct "name"/\ay K R.ct "cost"/\ay K R.ct "part_names"/\ay K R.ct "part"/\ay K R.ct "turning"
 r0:W.kitOne K (.ref R.cc) (.ref R.rr)=some true
 r1:W.kitOne K (.ref R.cb) (.ref R.rr)=some true
 r2:W.kitOne K (.ref R.ca) (.ref R.rr)=some true
 r3:W.kitOne K (.ref R.ct) (.ref R.rr)=some true
 s0:W.kitOne K (.ref R.cc) (.ref R.cc)=some true
 s1:W.kitOne K (.ref R.cb) (.ref R.cb)=some true
 s2:W.kitOne K (.ref R.ca) (.ref R.ca)=some true
 s3:W.kitOne K (.ref R.ct) (.ref R.ct)=some true
theorem mR.icls(rk:mR K R):∀k,jE K (R.at k)
 |0=>rk.i0
 |1=>rk.i1
 |2=>rk.i2
 |_+3=>rk.i3
theorem mR.name(rk:mR K R):∀k,ay K (R.at k) "name"/\ay K (R.at k) "cost"/\ay K (R.at k) "part_names"
 |0=>⟨rk.a0.1,rk.a0.2.1,rk.a0.2.2.1⟩
 |1=>⟨rk.a1.1,rk.a1.2.1,rk.a1.2.2.1⟩
 |2=>⟨rk.a2.1,rk.a2.2.1,rk.a2.2.2.1⟩
 |_+3=>⟨rk.a3.1,rk.a3.2.1,rk.a3.2.2.1⟩
theorem jq(l:Addr)(v:RV):∀k,(wF k l v).lookup ("name":Str)=some (V.str (tx v.n))/\(wF k l v).lookup ("cost":Str)=some (V.int v.c)/\(wF k l v).lookup ("part_names":Str)=some (V.ref l)/\(wF k l v).lookup ("parts":Str)=none/\(wF k l v).lookup ("told":Str)=none
 |0=>⟨rfl,rfl,rfl,rfl,rfl⟩
 |1=>⟨rfl,rfl,rfl,rfl,rfl⟩
 |2=>⟨rfl,rfl,rfl,rfl,rfl⟩
 |_+3=>⟨rfl,rfl,rfl,rfl,rfl⟩
theorem jz{H1 H2:Hp}(hx:H1 x=none)(hd:H1 dx=none)(s:a_ x (aD (aD H1 dx o) x o') H2):ax H1 H2:=
 λb u e=>s b u (aA e hx) (by rw[aq (aA e hx),aq (aA e hd)];exact e)
theorem FM{CX:iI}(h0:∃ps,ij P w K mg base CX k C0 m ps s0)(h1:∃ps,ij P w K mg base CX k C1 m ps s1)(h2:∃ps,ij P w K mg base CX k C2 m ps s2)(h3:∃ps,ij P w K mg base CX k C3 m ps s3) :
  yA P w K mg base CX k m [(C0,s0),(C1,s1),(C2,s2),(C3,s3)]:=⟨λo ho=>by
 simp only[MQ,List.not_mem_nil,or_false]at ho;rcases ho with rfl | rfl | rfl | rfl
 ·exact h0
 ·exact h1
 ·exact h2
 ·exact h3⟩
def p_(K:W.Frag)(R:RC):List (Addr×Sp):=[(R.cc,cK K),(R.cb,cK K),(R.ca,cK K),(R.ct,cK K)]
theorem A8{R:RC}{k a}{v:RV}{Q:VK}{E:XK}(rk:mR K R)(r:gu R H k a v)(q:fC H (cv k v) Q) :
  ∃o∈p_ K R,∃dx fs,H a=some (.ins o.1 dx fs)/\fs.lookup ("parts":Str)=none/\o.2 [.ref a] H Q E:=by
 obtain⟨dx,l,h1,h2⟩:=r;have b:cK K [.ref a] H Q E:=⟨a,R.at k,dx,l,_,_,rfl,h1,(rk.icls k).cl,(rk.name k).2.2,(jq l v k).2.2.1,h2,q⟩;have mem:(R.at k,cK K)∈p_ K R:=by
  unfold p_
  match k with
  |0=>simp[RC.at]
  |1=>simp[RC.at]
  |2=>simp[RC.at]
  |_+3=>simp[RC.at]
 exact⟨_,mem,dx,_,h1,(jq l v k).2.2.2.1,b⟩
abbrev iT:Stmt:=eU 48
abbrev oQ:Str:="abcdefghijklmnopqrstuvwxyz"
def dy(r:Ny):Bool:=decide (1<=r.length)&&decide (r.length<=4)&&ir r oQ&&decide ((met (dq (tx r))).length=r.length)
inductive lE(vs:List V)(H:Hp)(Q:VK)(_E:XK):Prop
 |mk (r:Ny) (_:vs=[.str (tx r)]) (_:r.length<=1000) (_:∀H',ax H H'->Q (.bl (dy r)) H')
theorem uO:az ["text"] ["text"] (am iT):=by walk_at "c"
theorem va{f:Addr}{t1 t2:Tok}(F:c8 K "are_signs" "are_signs" iT f fd)(nb:NB mg)(ybe:mg "MOST_SIGNS"=some (.int 4 t1))(yam:mg "SMALLS"=some (.str "abcdefghijklmnopqrstuvwxyz" t2))(yah:↑df 1 "only_of" ["text","letters"] ic):↑aV 2 f fd ["text"] lE:=by
 have sc:=uO;walk_at "f"
 ·obtain⟨r,rfl,hr',q⟩:=h
  refine⟨_,(ai (aG (oH (wJ (bC.m0 iy) (bC.m0 iy) aj (aC aS rfl nb.len bi (aa (ak 0) ac)) (cH (v:=.int 4) rfl ybe ⟨_,rfl⟩)) (oH (aH yah (hr.mono nofun) rfl aM (aa (ak 0) (aa (cH (v:=.str "abcdefghijklmnopqrstuvwxyz") rfl yam ⟨_,rfl⟩) ac))) (uk (jv gI (A2 rfl (ak 0) rfl nb.len rfl nb.set) (aC aS rfl nb.len bi (aa (ak 0) ac)) (aZ _))))))),?_⟩;ext;refine⟨by rw[aw];exact ar ⋯,?_⟩;rw[aw];unfold dy at q
  by_cases h1:1<=r.length
  ·rw[q07 ⋯]
   by_cases h2:r.length<=4
   ·rw[q07 ⋯]
    refine⟨r,_,rfl,⋯,λc b=>⟨_,rfl,?_⟩⟩;have z:=q c b;rw[q09 h1,q09 h2]at z;cases a:ir r oQ with
    |false=>
     rw[a]at z;rw[q06 (by simp)];exact z
    |true=>
     rw[a]at z;rw[q07 rfl];refine⟨by rw[JG];unfold scanBound;omega,by exact ar ⋯,?_⟩;have e:decide (((met (dq (tx r))).length:Int)=(r.length:Int))=decide ((met (dq (tx r))).length=r.length):=by
      apply decide_eq_decide.mpr
      constructor<;>intro h<;>omega
     rw[e];exact z
   ·rw[q06 ⋯]
    have z:=q H (λ_ _ e=>e);rw[q09 h1,q08 h2]at z;exact z
  ·rw[q06 ⋯]
   have z:=q H (λ_ _ e=>e);rw[q08 h1]at z;exact z
theorem B_{α:Type}{l:List α}{i:Nat}{x:α}(h:l[i]?=some x):l.drop i=x::l.drop (i+1):=by
 obtain⟨a,e⟩:=Mw.mp h;rw[q0T a,e]
structure Do(K:W.Frag)(R:RC):Prop where
 kit:∀i j,i<4->j<4->W.kitOne K (.ref (R.at i)) (.ref (R.at j))=some (decide (i=j))
abbrev HE(z x:Str):Bool:=!(Builtin.Str.occurrences z x 0 z.length 1).isEmpty
def fV(sg:Str):Yaa->Nat->Option Nat
 | [],_=>none
 |r::rs,j=>if r.1=0/\HE sg (tx r.2.sg)=false then some j else fV sg rs (j+1)
def gZ(sg st:Ny)(rs:Yaa):Option (Str×List Int):=
 if dy sg=false then some ("signs",[]) else if dg st=false then some ("start",[]) else if 24<rs.length then some ("rules",[(rs.length:Int)]) else
  match fV (tx sg) rs 0 with
  |some k=>some ("sign",[(k:Int)])
  |none=>none
abbrev eS:Stmt:=eU 47
def bX(R:RC)(H:Hp)(as:NC)(rs:Yaa):Prop:=as.length=rs.length/\∀(i:Nat) a r,as[i]?=some a->rs[i]?=some r->gu R H r.1 a r.2
theorem bX.up(h:bX R H as rs)(s:ax H H'):bX R H' as rs:=⟨h.1,λi a r e1 e2=>(h.2 i a r e1 e2).up s⟩
inductive gG(R:RC)(vs:List V)(H:Hp)(Q:VK)(_E:XK):Prop
 |mk (sg st:Ny) (a:Addr) (as:NC) (rs:Yaa) (_:vs=[.str (tx sg),.str (tx st),.ref a]) (_:sg.length<=1000) (_:st.length<=1000) (_:H a=some (.lst (as.map V.ref))) (_:bX R H as rs) (_:(∀r∈rs,r.1<4)) (_:rs.length<=100) (_:gZ sg st rs=none) (_:∀H',ax H H'->Q .non H')
theorem lM:az ["signs","start","rules","k","rule"] ["signs","start","rules"] (am eS):=by walk_at "c"
theorem mD{f:Addr}{t1:Tok}(F:c8 K "check_made_of" "check_made_of" eS f fd)(nb:NB mg)(rk:mR K R)(rk4:Do K R)(ybc:mg "MOST_RULES"=some (.int 24 t1))(zRa:mg "CellRule"=some (.ref R.cc))
  (yaM:↑df 2 "are_signs" ["text"] lE) (yal:↑df 2 "is_name" ["text"] ke):↑aV 3 f fd ["signs","start","rules"] (gG R):=by
 have sc:=lM;walk_at "f"
 ·obtain⟨sg,I,a,L,g,rfl,U,hst,ha,u,Z,hn,c,good⟩:=h
  refine⟨_,(ad (bB (dE (cR (aH yaM (hr.mono nofun) rfl aM (aa (ak 0) ac)) λ_=>rfl))
   (ai fo)
   aO)
   (ad (bB (dE (cR (aH yal (hr.mono nofun) rfl aM (aa (ak 1) ac)) λ_=>rfl))
   (ai fo)
   aO)
   (ad (bB (aK (bC.m0 mX) (aC bo rfl nb.len bi (aa (ak 2) ac)) (cH (v:=.int 24) rfl ybc ⟨_,rfl⟩) (aZ _))
   (ai fo)
   aO)
   (ai (aX PassesOwn.never rfl (n0 rfl nb.enumerate (aa (ak 2) ac)) (fT (n:=2) rfl (aU (q02 3 sc.nd) (aU (q02 4 sc.nd) du)))
   (ai (bB (PW.pt (iQ (cR (aC bI rfl nb.isinstance bG (aa (ak 4) (aa (cH (v:=.ref _) rfl zRa rfl) ac))) λ_=>rfl) (jk (aK kX (bE (ak 4) rfl) (ak 0) (by with_unfolding_all rfl)))))
   (ai fo)
   aO))))))),?_⟩
  symm;refine⟨sg,rfl,U,λH1 S=>⟨_,rfl,?_⟩⟩;unfold gZ at c;have e1:dy sg=true:=by
   cases e:dy sg with
   |true=>rfl
   |false=>rw[q07 e]at c;cases c
  rw[q06 (by rw[e1];decide)]at c ⊢;refine h1 _ _ ?_;clear h1;ac_nf;refine⟨I,rfl,⋯,λH2 O=>⟨_,rfl,?_⟩⟩;have l:=S.trans O;have e2:dg I=true:=by
   cases e:dg I with
   |true=>rfl
   |false=>rw[q07 e]at c;cases c
  rw[q06 (by rw[e2];decide)]at c ⊢;refine h2 _ _ ?_;clear h2;have G:=l _ _ ha;have D:(L.map V.ref).length=g.length:=by rw[My];exact u.1
  refine al λN3 h3=>?_;ext;refine⟨_,aI.of G,?_⟩;rw[D];have a1:¬ 24<g.length:=λh=>by rw[q07 h]at c;cases c
  rw[q06 ⋯];rw[q06 a1]at c;refine h3 _ _ ?_;clear h3;ext;refine⟨_,aI.of G,?_⟩;refine mw (xs:=L.map V.ref) (λi σ M=>ax H M/\fV (tx sg) (g.drop i) i=fV (tx sg) g 0/\∃x y,σ=[some (.str (tx sg)),some (.str (tx I)),some (.ref a),x,y]) ⟨l,rfl,_,_,rfl⟩ ?_ ?_ ?_
  ·rintro i σ M _ ⟨q,_⟩
   exact aI.of (q _ _ ha)
  ·rintro i x σ H3 T p ⟨q,hb,x1,y1,rfl⟩ hT
   have C:i<g.length:=by have:=(Mw.mp p).1;rw[D]at this;exact this
   obtain⟨d,Y,rfl⟩:∃d,L[i]?=some d/\V.ref d=x:=by
    rw[MA]at p;cases e:L[i]? with
    |none=>rw[e]at p;cases p
    |some d=>rw[e]at p;exact⟨d,rfl,q0S p⟩
   have o:g[i]?=some g[i]:=Mv C;have B:=Z _ (MG C);generalize g[i]=r at o B;rw[B_ o]at hb;have j:ax H (aD H3 T (.tup [V.int (i:Int),V.ref d])):=q.trans (af hT);have eT:aD H3 T (.tup [V.int (i:Int),V.ref d]) T=some (.tup [V.int (i:Int),V.ref d]):=ae;generalize aD H3 T (.tup [V.int (i:Int),V.ref d])=H4 at j eT ⊢;have rr:=(u.2 i d r Y o).up j;obtain⟨dx,pl,m,_⟩:=id rr;ext;refine⟨_,cy.of eT,rfl,_,_,rfl,_,_,rfl,rfl,?_⟩;refine⟨_,(rk.icls r.1).ty m,_,rk4.kit r.1 0 B nofun,?_⟩;have b:(if r.1=0/\HE (tx sg) (tx r.2.sg)=false then some i else fV (tx sg) (g.drop (i+1)) (i+1))=fV (tx sg) g 0:=hb
   by_cases J:r.1=0
   ·rw[q07 (by simp[J])]
    obtain⟨r0,v⟩:=r;have a2:r0=0:=J;subst a2;refine⟨d,rfl,_,_,_,m,rk.i0.cl,rk.a0.2.2.2,_,rfl,_,rfl,?_⟩;have k:HE (tx sg) (tx v.sg)=true:=by
     cases k:HE (tx sg) (tx v.sg) with
     |true=>rfl
     |false=>
      rw[q07 ⟨rfl,k⟩]at b;rw[<- b]at c;cases c
    rw[q06 (by rw[show(!(Builtin.Str.occurrences (tx sg) (tx v.sg) 0 (tx sg).length 1).isEmpty)=true from k];decide)];rw[q06 (λz=>by rw[k]at z;exact q0Q z.2 nofun)]at b;exact⟨j,b⟩
   ·rw[q06 (by simp[J])]
    rw[q06 (λz=>J z.1)]at b;exact⟨j,b⟩
  ·rintro σ M ⟨q,hb,x,y,rfl⟩
   ext;exact good M q
def iw(m:List (Str×List Nat))(z:Str)(i:Nat):List (Str×List Nat):=m.map λq=>if q.1=z then(q.1,q.2++[i]) else q
structure uv(H0:Hp)(p:Addr)(t:NT)(H:Hp):Prop where
 same:ax H0 H
 at_:dj H p t
 fresh:∀x∈t,H0 x.2.1=none
 nodup:((iH t).map (·.1)).Nodup
theorem oq(t:NT):(iH t).length=t.length:=by unfold iH;rw[My]
theorem qX(m:List (Str×List Nat))(z:Str):(b_ m z).length<=m.length+1:=by
 unfold b_;split
 ·omega
 ·rw[MX];simp
theorem gY(m:List (Str×List Nat))(z:Str)(i:Nat):(iw m z i).map (·.1)=m.map (·.1):=by
 unfold iw;rw[MP]
 apply q0K;intro q _;simp only[Function.comp]
 split<;>rfl
theorem Az{m:List (Str×List Nat)}{j i:Nat}{q:Str×List Nat}(nd:(m.map (·.1)).Nodup)(hj:m[j]?=some q):m.set j (q.1,q.2++[i])=iw m q.1 i:=by
 unfold iw;apply List.ext_getElem?;intro k;rw[MA,List.getElem?_set];have b:j<m.length:=(Mw.mp hj).1
 by_cases e:j=k
 ·subst e
  rw[q07 rfl,q07 b,hj];simp
 ·rw[q06 e]
  cases c:m[k]? with
  |none=>rfl
  |some y=>
   have a:y.1≠q.1:=by
    intro h;have h1:(m.map (·.1))[j]?=some q.1:=by rw[MA,hj];rfl
    have h2:(m.map (·.1))[k]?=some q.1:=by rw[MA,c];simp[h]
    exact e ((List.getElem?_inj (Mw.mp h1).1 nd).mp (h1.trans h2.symm))
   simp[a]
theorem uv.free{H0:Hp}{t:NT}(N:uv H0 p t H){l:Addr}(h:H l=none):H0 l=none:=N.same.free h
theorem m7{te:TE}{σ:St}{H0 H:Hp}{t:NT}{i:Nat}{Q:VK}(hp:H0 p=none)(hv:σ[i]?=some (some (.ref p)))(hte:∀R:VK,R (.str z) H->te σ H R)(N:uv H0 p t H)(hn:t.length<sizeLine)
  (h:∀(H':Hp) (t':NT) (j:Nat) (x:Str×Addr×List Nat),uv H0 p t' H'->t'[j]?=some x->x.1=z->iH t'=b_ (iH t) z->t'.length<=t.length+1->(∀a o,a≠p->H a=some o->H' a=some o)->Q (.ref x.2.1) H'):vX (AQ i) te (EY oz) σ H Q:=by
 refine⟨.ref p,hv,p,rfl,.inl ⟨_,.inl N.at_.dict⟩,hte _ ⟨MZ _,λl k=>?_⟩⟩;have g:=N.free k;refine N.at_.setdef k hn λH' t' j x v u r d n m=>h H' t' j x ⟨λb o e=>m b o (λq=>by rw[q,hp]at e;exact nomatch e) (N.same b o e),v,λy c=>?_,?_⟩ u r d ?_ m
 ·rcases n y c with q | q
  ·exact N.fresh y q
  ·rw[q];exact g
 ·rw[d];exact ly N.nodup
 ·have:=qX (iH t) z
  rw[<- d,oq,oq]at this;exact this
theorem uv.put{H0:Hp}{t:NT}{j k:Nat}{x:Str×Addr×List Nat}(N:uv H0 p t H)(hj:t[j]?=some x) :
  uv H0 p (t.set j (x.1,x.2.1,x.2.2++[k])) (aD H x.2.1 (.lst (vC (x.2.2++[k]))))/\iH (t.set j (x.1,x.2.1,x.2.2++[k]))=iw (iH t) x.1 k:=by
 have a:=MB hj;have e:iH (t.set j (x.1,x.2.1,x.2.2++[k]))=iw (iH t) x.1 k:=by
  rw[E8];exact Az (q:=(x.1,x.2.2)) N.nodup (by unfold iH;rw[MA,hj];rfl)
 refine⟨⟨cM N.same (N.fresh x a),N.at_.put hj,λy b=>?_,?_⟩,e⟩
 ·rcases List.mem_or_eq_of_mem_set b with q | q
  ·exact N.fresh y q
  ·rw[q];exact N.fresh x a
 ·rw[e,gY];exact N.nodup
abbrev dS:Stmt:=eU 49
theorem j0:az ["start","rules","numbers","k","rule","part"] ["start","rules"] (am dS):=by walk_at "c"
def d_(m:List (Str×List Nat))(i:Nat)(r:Nat×RV):List (Str×List Nat):=((cv r.1 r.2).map tx).foldl b_ (iw (b_ m (tx r.2.n)) (tx r.2.n) i)
def fw:Nat->Yaa->List (Str×List Nat)->List (Str×List Nat)
 |_,[],m=>m
 |i,r::rs,m=>fw (i+1) rs (d_ m i r)
theorem km{m:List (Str×List Nat)}{z:Str}{n:Nat}(h:∀q∈m,q.2.length<=n):∀q∈b_ m z,q.2.length<=n:=by
 unfold b_;split
 ·exact h
 ·intro q a
  rcases MO.mp a with z1 | z1
  ·exact h q z1
  ·rw[Mz.mp z1];exact MZ _
theorem ni:∀{zs:NG} {m:List (Str×List Nat)} {n:Nat},(∀q∈m,q.2.length<=n)->∀q∈zs.foldl b_ m,q.2.length<=n
 | [],_,_,h=>h
 |z::zs,_,_,h=>ni (zs:=zs) (km h)
theorem vF{m:List (Str×List Nat)}{i n:Nat}{r:Nat×RV}(h:∀q∈m,q.2.length<=n):∀q∈d_ m i r,q.2.length<=n+1:=by
 unfold d_;refine ni λq b=>?_;unfold iw at b;obtain⟨c,a,rfl⟩:=Nj.mp b;have:=km h c a
 split
 ·rw[MX];simp;exact this
 ·omega
theorem pY:∀{rs:Yaa} {i n:Nat} {m:List (Str×List Nat)},(∀q∈m,q.2.length<=n)->∀q∈fw i rs m,q.2.length<=n+rs.length
 | [],_,_,_,h=>h
 |r::rs,i,n,m,h=>λq hq=>by
  have:=pY (rs:=rs) (i:=i+1) (vF (i:=i) (r:=r) h) q hq;rw[MM];omega
theorem gc:∀{rs:Yaa} {i:Nat} {m:List (Str×List Nat)} {r:Nat×RV},fw i (rs++[r]) m=d_ (fw i rs m) (i+rs.length) r
 | [],i,m,r=>rfl
 |r0::rs,i,m,r=>by
  show fw (i+1) (rs++[r]) (d_ m i r0)=d_ (fw (i+1) rs (d_ m i r0)) (i+(rs.length+1)) r;rw[gc,show i+1+rs.length=i+(rs.length+1) by omega]
theorem yb(k:Nat)(v:RV):(cv k v).length<=2:=by
 match k with
 |0=>simp[cv]
 |1=>simp[cv]
 |2=>simp[cv]
 |_+3=>simp[cv]
def bb(z:Str)(rs:Yaa):List (Str×List Nat):=fw 0 rs [(z,[])]
inductive fD(K:W.Frag)(R:RC)(vs:List V)(H:Hp)(Q:VK)(_E:XK):Prop
 |mk (z:Str) (a:Addr) (as:NC) (rs:Yaa) (_:vs=[.str z,.ref a]) (_:H a=some (.lst (as.map V.ref))) (_:bX R H as rs) (_:rs.length<=100) (_:∀p H' t,H p=none->dj H' p t->iH t=bb z rs->(∀x∈t,H x.2.1=none)->ax H H'->Q (.ref p) H')
theorem jV{f:Addr}(F:c8 K "numbers_by_name" "numbers_by_name" dS f fd)(nb:NB mg)(rk:mR K R)(yaz:↑yA 1 "parts" (p_ K R)):↑aV 2 f fd ["start","rules"] (fD K R):=by
 have sc:=j0;walk_at "f"
 ·obtain⟨z,a,as,rs,rfl,ha,U,hn,q⟩:=h
  refine⟨_,(ad (q01 2 sc.nd (D3 (Dy (pv 0) (bh ac) EJ) rfl rfl (by simp) nofun))
   (ad (aX PassesOwn.never rfl (n0 rfl nb.enumerate (aa (pv 1) ac)) (yv (n:=2) rfl (aU (q02 3 sc.nd) (aU (q02 4 sc.nd) du)))
   (ad (ba (q03 (oU (pv 2) (xS (pv 4) rfl) (bh ac) ⟨rfl,rfl,rfl,rfl⟩) (aa (pv 3) ac)))
   (ai (aX PassesOwn.never rfl (tX (BF yaz (hr.mono nofun) aM (pv 4))) (q02 5 sc.nd)
   (ai (ba (oU (pv 2) (pv 5) (bh ac) ⟨rfl,rfl,rfl,rfl⟩)))))))
   (ai (aG (pv 2))))),?_⟩
  ext;intro p hp;refine⟨MZ _,λl hl=>?_⟩;have g:l≠p:=λe=>by rw[e,ae]at hl;exact nomatch hl
  have a0:H l=none:=by rw[aq g]at hl;exact hl
  have a7:a≠p:=λe=>by rw[e,hp]at ha;exact nomatch ha
  have b3:a≠l:=λe=>by rw[e,a0]at ha;exact nomatch ha
  refine⟨by rw[aq (Ne.symm g),ae],[(.inr z,.ref l)],rfl,by simp,as.map V.ref,aI.of (by rw[aq a7,aq b3,aq a7];exact ha),?_⟩;refine mw (xs:=as.map V.ref) (λi σ B=>ax H B/\∃t,dj B p t/\(∀x∈t,H x.2.1=none)/\((iH t).map (·.1)).Nodup/\iH t=fw 0 (rs.take i) [(z,[])]/\t.length<=1+3*i/\∃x y u,σ=[some (.str z),some (.ref a),some (.ref p),x,y,u]) ?_ ?_ ?_ ?_
  ·refine⟨λb o e=>?_,[(z,l,[])],⟨by rw[ae];rfl,λx c=>?_,by simp⟩,λx c=>?_,by simp[iH],rfl,by simp,_,_,_,rfl⟩
   ·have h1:b≠p:=λq=>by rw[q,hp]at e;exact nomatch e
    have h2:b≠l:=λq=>by rw[q,a0]at e;exact nomatch e
    rw[aq h1,aq h2,aq h1];exact e
   ·rw[Mz.mp c,aq g,ae];rfl
   ·rw[Mz.mp c];exact a0
  ·rintro i σ B _ ⟨sm,_⟩
   exact aI.of (sm _ _ ha)
  ·rintro i x σ H1 T c ⟨sm,t,N,fr,nd,em,hlen,x1,y1,u1,rfl⟩ hT
   have a3:i<rs.length:=by have:=(Mw.mp c).1;rw[My,U.1]at this;exact this
   obtain⟨d,b0,rfl⟩:∃d,as[i]?=some d/\V.ref d=x:=by
    rw[MA]at c;cases e:as[i]? with
    |none=>rw[e]at c;cases c
    |some d=>rw[e]at c;exact⟨d,rfl,q0S c⟩
   have Y:rs[i]?=some rs[i]:=Mv a3;generalize rs[i]=r at Y;have rr:=U.2 i d r b0 Y;have M:ax H (aD H1 T (.tup [V.int (i:Int),V.ref d])):=sm.trans (af hT);have gT:∀b o,H1 b=some o->aD H1 T (.tup [V.int (i:Int),V.ref d]) b=some o:=af hT;have eT:cy K (aD H1 T (.tup [V.int (i:Int),V.ref d])) T [V.int (i:Int),V.ref d]:=cy.of ae;have N2:=N.grow gT;generalize aD H1 T (.tup [V.int (i:Int),V.ref d])=H2 at M gT eT N2 ⊢;clear gT N hT sm H1;simp only[yU,zy,jN,Eh];refine⟨_,_,rfl,eT,rfl,_,_,rfl,_,_,rfl,rfl,?_⟩;refine al λN1 h1=>?_;have a2:=rr.up M;have NI:uv H p t H2:=⟨M,N2,fr,nd⟩;have hz:sizeLine>1000:=aY nofun;obtain⟨dx,pl,J,_⟩:=id a2;ext;refine m7 (z:=tx r.2.n) hp rfl (λS hS=>⟨_,rfl,d,_,dx,_,_,rfl,J,(rk.icls r.1).cl,(rk.name r.1).1,(jq pl r.2 r.1).1,hS⟩) NI ⋯ λH3 t3 j x N3 hj c hm a5 hk=>?_;have O:=N3.at_.list x (MB hj);refine⟨.inl ⟨rfl,_,aI.of O⟩,_,rfl,_,O,?_,h1 _ _ ?_⟩
   ·have h2:(x.1,x.2.2)∈b_ (iH t) (tx r.2.n):=by rw[<- hm];exact Nj.mpr ⟨x,MB hj,rfl⟩
    have h3:=km (pY (rs:=rs.take i) (i:=0) (n:=0) (m:=[(z,[])]) (λq hq=>by rw[Mz.mp hq];exact MZ _)) (z:=tx r.2.n) (x.1,x.2.2) (by rw[<- em];exact h2);rw[Nf]at h3;unfold vC;rw[My];have h4:x.2.2.length<=100:=by simp at h3;omega
    omega
   clear h1;obtain⟨I,C⟩:=N3.put (k:=i) hj;have a4:(t3.set j (x.1,x.2.1,x.2.2++[i])).length<=t.length+1:=by rw[List.length_set];exact a5
   have C:iH (t3.set j (x.1,x.2.1,x.2.2++[i]))=iw (b_ (iH t) (tx r.2.n)) (tx r.2.n) i:=by rw[C,hm,c]
   have eI:vC (x.2.2++[i])=vC x.2.2++[V.int (i:Int)]:=by unfold vC;rw[MN];rfl
   rw[eI]at I;generalize t3.set j (x.1,x.2.1,x.2.2++[i])=t4 at I C a4;generalize aD H3 x.2.1 (.lst (vC x.2.2++[V.int (i:Int)]))=H4 at I ⊢;clear hk O hj N3 hm a5 c NI N2 J a2;have a9:=rr.up I.same;have hpk:=yb r.1 r.2;ext;refine A8 rk a9 λlp H5 g a8 a1=>⟨lp,rfl,⟨_,aI.of a8⟩,?_⟩;have b1:lp≠p:=λe=>by rw[e,I.at_.dict]at g;exact nomatch g
   refine bz (xs:=av (cv r.1 r.2)) (λn σ B=>n<=(cv r.1 r.2).length/\∃L,uv H p L B/\iH L=(((cv r.1 r.2).take n).map tx).foldl b_ (iw (b_ (iH t) (tx r.2.n)) (tx r.2.n) i)/\L.length<=t.length+1+n/\B lp=some (.lst (av (cv r.1 r.2)))/\∃u,σ=[some (.str z),some (.ref a),some (.ref p),some (.int (i:Int)),some (.ref d),u])
    ⟨MZ _,t4,⟨I.same.trans a1,I.at_.grow a1,I.fresh,I.nodup⟩,C,a4,a8,_,rfl⟩ ?_ ?_ ?_
   ·rintro n σ B _ ⟨_,L,_,_,_,G,_⟩
    exact aI.of G
   ·rintro n v σ B hv ⟨hn1,L,N',D,a6,G,u,rfl⟩
    have Z:n<(cv r.1 r.2).length:=by have:=(Mw.mp hv).1;rwa [ao]at this
    rw[br Z]at hv;cases hv;ext;refine m7 (z:=tx (cv r.1 r.2)[n]) hp rfl (λS hS=>⟨_,rfl,hS⟩) N' ⋯ λH6 t6 j x N6 hj c b2 hl6 hk=>?_;refine⟨Z,t6,N6,?_,⋯,hk _ _ b1 G⟩;rw[b2,D,q0E,Mv Z,MN,List.foldl_append]
    rfl
   ·rintro σ B ⟨_,L,N',D,a6,G,u,rfl⟩
    rw[ao,Nd]at D;refine⟨N'.same,L,N'.at_,N'.fresh,N'.nodup,?_,?_,_,_,_,rfl⟩
    ·rw[D,q0E,Y,em]
     show _=fw 0 (rs.take i++[r]) _;rw[gc,Nf,Nr (q0P a3),Nat.zero_add]
     rfl
    ·rw[ao]at a6;omega
  ·rintro σ B ⟨sm,t,N,fr,_,em,_,x,y,u,rfl⟩
   ext;refine q p B t hp N ?_ fr sm;rw[em,My,U.1,Nd];rfl
def oM(sg st:Ny)(rs:Yaa):Option (Str×List Int):=
 match gZ sg st rs with
 |some y=>some y
 |none=>if 8<(bb (tx st) rs).length then some ("names",[((bb (tx st) rs).length:Int)]) else none
def gn(sg st:Ny)(lk pn:Addr):List (Str×V):=[("signs",.str (tx sg)),("start",.str (tx st)),("kept",.ref lk),("numbers",.ref pn)]
def cL(R:RC)(H:Hp)(C dx a:Addr)(sg st:Ny)(as:NC)(rs:Yaa):Prop:=
 ∃lk pn t,H a=some (.ins C dx (gn sg st lk pn))/\H lk=some (.lst (as.map V.ref))/\bX R H as rs/\dj H pn t/\iH t=bb (tx st) rs
def u4(R:RC)(H:Hp)(C dx a:Addr)(sg st:Ny)(as:NC)(rs:Yaa)(lk pn:Addr)(t:NT):Prop:=
 H a=some (.ins C dx (gn sg st lk pn))/\H lk=some (.lst (as.map V.ref))/\bX R H as rs/\dj H pn t/\iH t=bb (tx st) rs
theorem u4.f{st:Ny}{lk pn:Addr}{t:NT}(g:u4 R H C dx a sg st as rs lk pn t):cL R H C dx a sg st as rs:=⟨lk,pn,t,g⟩
theorem cL.up{st:Ny}(g:cL R H C dx a sg st as rs)(s:ax H H'):cL R H' C dx a sg st as rs:=by
 obtain⟨c,b,t,h1,h2,i,e,d⟩:=g;exact⟨c,b,t,s _ _ h1,s _ _ h2,i.up s,e.grow s,d⟩
theorem Fp(k:Nat)(l:Addr)(v:RV):wF k l v≠[]:=λe=>by
 have:=(jq l v k).1;rw[e]at this;exact nomatch this
theorem bX.upX(h:bX R H as rs)(ha:H a=some (.ins C dx []))(s:a_ a H H'):bX R H' as rs:=by
 refine⟨h.1,λi b r g c=>?_⟩;obtain⟨d,l,h1,h2⟩:=h.2 i b r g c;refine⟨d,l,s _ _ (λe=>?_) h1,s _ _ (λe=>?_) h2⟩
 ·rw[e,ha]at h1
  have:=q0S h1;exact q0Q (HO.ins.inj this).2.2.symm (Fp _ _ _)
 ·rw[e,ha]at h2;cases h2
abbrev fY:Stmt:=iJ 46 0
inductive hU(K:W.Frag)(R:RC)(vs:List V)(H:Hp)(Q:VK)(_E:XK):Prop
 |mk (a C dx l:Addr) (sg st:Ny) (as:NC) (rs:Yaa) (_:vs=[.ref a,.str (tx sg),.str (tx st),.ref l]) (_:H a=some (.ins C dx [])) (_:iF K C) (_:(ay K C "signs"/\ay K C "start"/\ay K C "kept"/\ay K C "numbers")) (_:sg.length<=1000) (_:st.length<=1000) (_:H l=some (.lst (as.map V.ref))) (_:bX R H as rs) (_:(∀r∈rs,r.1<4)) (_:rs.length<=100) (_:oM sg st rs=none) (_:∀H' lk pn t,a_ a H H'->u4 R H' C dx a sg st as rs lk pn t->H lk=none->H pn=none->(∀x∈t,H x.2.1=none)->Q .non H')
theorem tO:az ["self","signs","start","rules"] ["self","signs","start","rules"] (am fY):=by walk_at "c"
theorem uW{f:Addr}{t1:Tok}(F:c8 K "__init__" "Grammar.__init__" fY f fd)(nb:NB mg)(ya4:mg "MOST_NAMES"=some (.int 8 t1))
  (yaS:↑df 3 "check_made_of" ["signs","start","rules"] (gG R)) (ya0:↑df 2 "numbers_by_name" ["start","rules"] (fD K R)) :
  ↑aV 4 f fd ["self","signs","start","rules"] (hU K R):=by
 have sc:=tO;walk_at "f"
 ·obtain⟨a,C,g,l,b,c,q,I,rfl,ha,cl,⟨n1,n2,n3,n4⟩,a6,a5,hl,J,a7,hn,O,good⟩:=h
  refine⟨_,(ad (ba (aH yaS (hr.mono nofun) rfl aM (aa (ak 1) (aa (ak 2) (aa (ak 3) ac)))))
   (ad (cw (ak 0) (ak 1) rfl)
   (ad (cw (ak 0) (ak 2) rfl)
   (ad (cw (ak 0) (cq bR rfl nb.list c7 (aa (ak 3) ac)) rfl)
   (ad (cw (ak 0) (aH ya0 (hr.mono nofun) rfl aM (aa (ak 2) (aa (ak 3) ac))) rfl)
   (ai (bB (aK (bC.m0 mX) (aC Ae rfl nb.len bi (aa (bE (ak 0) rfl) ac)) (cH (v:=.int 8) rfl ya4 ⟨_,rfl⟩) (aZ _))
   (ai fo)
   aO))))))),?_⟩
  obtain⟨g0,h8⟩:gZ b c I=none/\¬ 8<(bb (tx c) I).length:=by
   unfold oM at O;cases e:gZ b c I with
   |some y=>rw[e]at O;cases O
   |none=>
    rw[e]at O;exact⟨rfl,λh=>by simp only[]at O;rw[q07 h]at O;cases O⟩
  symm;refine⟨b,c,l,q,I,rfl,a6,a5,hl,J,a7,hn,g0,λH1 G=>h1 _ _ ?_⟩;clear h1;have a1:=G _ _ ha;have Z:l≠a:=λe=>by rw[e,ha]at hl;cases hl
  ac_nf;refine⟨C,g,_,a1,cl,n1,by simp,h2 _ _ ?_⟩;clear h2;have B:a_ a H (aD H1 a (.ins C g [("signs",.str (tx b))])):=(a_.of G).put;have U:aD H1 a (.ins C g [("signs",.str (tx b))]) a=some (.ins C g [("signs",.str (tx b))]):=ae;show _;change AY _ _ _ _ (aD H1 a (.ins C g [("signs",.str (tx b))]));generalize aD H1 a (.ins C g [("signs",.str (tx b))])=H2 at B U ⊢;clear G a1;refine al λN3 h3=>?_;ext;have d1:¬ (("signs":Str)="start"):=by decide +kernel
  have e3:cG "start" (V.str (tx c)) [(("signs":Str),V.str (tx b))]=[(("signs":Str),V.str (tx b)),(("start":Str),V.str (tx c))]:=by simp only[cG,q06 d1]
  refine⟨C,g,_,U,cl,n2,by simp,?_⟩;rw[e3];refine h3 _ _ ?_;clear h3;have n:a_ a H (aD H2 a (.ins C g [(("signs":Str),V.str (tx b)),(("start":Str),V.str (tx c))])):=B.put;have T:aD H2 a (.ins C g [(("signs":Str),V.str (tx b)),(("start":Str),V.str (tx c))]) a=some (.ins C g [(("signs":Str),V.str (tx b)),(("start":Str),V.str (tx c))]):=ae;generalize aD H2 a (.ins C g [(("signs":Str),V.str (tx b)),(("start":Str),V.str (tx c))])=H3 at n T ⊢;clear B U;have a0:=n _ _ Z hl;refine al λN4 h4=>?_;ext;refine⟨_,.inl (aI.of a0),λd j=>?_⟩;have M:d≠a:=λe=>by rw[e,T]at j;cases j
  have hlk0:d≠l:=λe=>by rw[e,a0]at j;cases j
  have sk:ax H3 (aD H3 d (.lst (q.map V.ref))):=af j;have ek:aD H3 d (.lst (q.map V.ref)) d=some (.lst (q.map V.ref)):=ae;have b1:H d=none:=by
   cases e:H d with
   |none=>rfl
   |some u=>rw[n _ _ M e]at j;cases j
  generalize aD H3 d (.lst (q.map V.ref))=H4 at sk ek ⊢;have d2:¬ (("signs":Str)="kept"):=by decide +kernel
  have d3:¬ (("start":Str)="kept"):=by decide +kernel
  have e4:cG "kept" (V.ref d) [(("signs":Str),V.str (tx b)),(("start":Str),V.str (tx c))]=[(("signs":Str),V.str (tx b)),(("start":Str),V.str (tx c)),(("kept":Str),V.ref d)]:=by simp only[cG,q06 d2,q06 d3]
  refine⟨C,g,_,sk _ _ T,cl,n3,by simp,?_⟩;rw[e4];refine h4 _ _ ?_;clear h4;have k:a_ a H (aD H4 a (.ins C g [(("signs":Str),V.str (tx b)),(("start":Str),V.str (tx c)),(("kept":Str),V.ref d)])):=(n.then sk).put;have p:aD H4 a (.ins C g [(("signs":Str),V.str (tx b)),(("start":Str),V.str (tx c)),(("kept":Str),V.ref d)]) a=some (.ins C g [(("signs":Str),V.str (tx b)),(("start":Str),V.str (tx c)),(("kept":Str),V.ref d)]):=ae;have S:aD H4 a (.ins C g [(("signs":Str),V.str (tx b)),(("start":Str),V.str (tx c)),(("kept":Str),V.ref d)]) d=some (.lst (q.map V.ref)):=by rw[aq M];exact ek
  generalize aD H4 a (.ins C g [(("signs":Str),V.str (tx b)),(("start":Str),V.str (tx c)),(("kept":Str),V.ref d)])=H5 at k p S ⊢;refine al λN5 h5=>?_;ext;refine⟨tx c,l,q,I,rfl,k _ _ Z hl,J.upX ha k,hn,λi H6 t m hN hm a8 D=>?_⟩;have L:i≠a:=λe=>by rw[e,p]at m;cases m
  have hpk:i≠d:=λe=>by rw[e,S]at m;cases m
  have b0:H i=none:=by
   cases e:H i with
   |none=>rfl
   |some u=>rw[k _ _ L e]at m;cases m
  have a9:∀x∈t,H x.2.1=none:=λx hx=>by
   have o:=a8 x hx;cases e:H x.2.1 with
   |none=>rfl
   |some u=>rw[k _ _ (λz=>by rw[z,p]at o;cases o) e]at o;cases o
  have d4:¬ (("signs":Str)="numbers"):=by decide +kernel
  have d5:¬ (("start":Str)="numbers"):=by decide +kernel
  have d6:¬ (("kept":Str)="numbers"):=by decide +kernel
  have e6:cG "numbers" (V.ref i) [(("signs":Str),V.str (tx b)),(("start":Str),V.str (tx c)),(("kept":Str),V.ref d)]=gn b c d i:=by unfold gn;simp only[cG,q06 d4,q06 d5,q06 d6]
  have a4:=D _ _ p;refine⟨C,g,_,a4,cl,n4,by simp,?_⟩;rw[e6];refine h5 _ _ ?_;clear h5;have r:a_ a H (aD H6 a (.ins C g (gn b c d i))):=(k.then D).put;have gf:u4 R (aD H6 a (.ins C g (gn b c d i))) C g a b c q I d i t:=by
   refine⟨ae,by rw[aq M];exact D _ _ S,J.upX ha r,⟨by rw[aq L];exact hN.dict,λx hx=>?_,hN.apart⟩,hm⟩;have hq:=hN.list x hx;rw[aq (λe=>by rw[e,a4]at hq;cases hq)];exact hq
  have a3:aD H6 a (.ins C g (gn b c d i)) a=some (.ins C g (gn b c d i)):=ae;have a2:aD H6 a (.ins C g (gn b c d i)) i=some (.dK (vk t)):=by rw[aq L];exact hN.dict
  generalize aD H6 a (.ins C g (gn b c d i))=H7 at r gf a3 a2 ⊢;have Y:(vk t).length=(bb (tx c) I).length:=by rw[<- hm];unfold vk iH;rw[My,My]
  ext;refine⟨C,g,_,a3,cl,n4,_,rfl,i,rfl,_,a2,?_⟩;rw[Y];rw[q06 ⋯];exact good H7 d i t r gf b1 b0 a9
abbrev fZ:Stmt:=iJ 46 2
inductive e_(R:RC)(C:Addr)(vs:List V)(H:Hp)(Q:VK)(_E:XK):Prop
 |mk (a dx:Addr) (sg st:Ny) (as:NC) (rs:Yaa) (k:Nat) (b:Addr) (_:vs=[.ref a,.int (k:Int)]) (_:cL R H C dx a sg st as rs) (_:as[k]?=some b) (_:Q (.ref b) H)
theorem tR:az ["self","k"] ["self","k"] (am fZ):=by walk_at "c"
theorem tY{f:Addr}(F:c8 K "rule" "Grammar.rule" fZ f fd)(nb:NB mg)(cl:iF K C)(na:ay K C "signs"/\ay K C "start"/\ay K C "kept"/\ay K C "numbers"):↑aV 1 f fd ["self","k"] (e_ R C):=by
 have sc:=tR;walk_at "f"
 ·obtain⟨a,j,sg,st,as,rs,k,b,rfl,g,e,q⟩:=h
  obtain⟨c,pn,t,i,d,hrs,hN,hm⟩:=id g;have hu:=hr.units;refine⟨_,(ai (aG (aN bF (bE (ak 0) rfl) (ak 1) (λ_ _=>rfl)))),?_⟩;ext;exact⟨C,j,_,i,cl,na.2.2.1,_,rfl,c,rfl,_,aI.of d,_,bJ (by rw[MA,e];rfl),q⟩
theorem rM(z:Str):∀t:NT,(iH t).lookup z=(t.find? λx=>decide (x.1=z)).map (·.2.2)
 | []=>rfl
 |x::t=>by
  have ih:=rM z t;unfold iH at ih ⊢;rw[M8,List.lookup_cons,List.find?_cons]
  by_cases e:x.1=z
  ·simp[e]
  ·have e':(z==x.1)=false:=by simpa using λh=>e h.symm
   rw[e',ih];simp[e]
abbrev cY:Stmt:=iJ 46 5
inductive cS(R:RC)(C CN:Addr)(vs:List V)(H:Hp)(Q:VK)(E:XK):Prop
 |mk (a dx:Addr) (sg st:Ny) (as:NC) (rs:Yaa) (z:Str) (_:vs=[.ref a,.str z]) (_:cL R H C dx a sg st as rs) (_:(∀ns,(bb (tx st) rs).lookup z=some ns->∀l H',H l=none->H' l=some (.lst (vC ns))->ax H H'->Q (.ref l) H')) (_:((bb (tx st) rs).lookup z=none->E (.ref CN) none H))
theorem kb:az ["self","name"] ["self","name"] (am cY):=by walk_at "c"
theorem j3{f yad:Addr}(F:c8 K "numbers_of" "Grammar.numbers_of" cY f fd)(nb:NB mg)(cl:iF K C)(na:ay K C "signs"/\ay K C "start"/\ay K C "kept"/\ay K C "numbers")(ya8:mg "NoName"=some (.ref yad))(yaT:XR K yad):aV P w K mg base (j6 P w) 1 f fd ["self","name"] (cS R C yad):=by
 have sc:=kb;walk_at "x"
 ·obtain⟨a,e,o,n,v,p,z,rfl,_⟩:=h;rfl
 ·obtain⟨a,e,o,n,v,p,z,rfl,g,q,x⟩:=h
  obtain⟨lk,i,t,m,hk,hrs,d,u⟩:=id g;have j:=hr.units;refine⟨_,(ad (bB (mH (lU (Nh (Nl (by decide:1<=64) _) j) (ak 1) (bE (ak 0) rfl)) (by with_unfolding_all rfl))
   (ai (sS yaT rfl rfl ya8 (wM λ_ _ _ h=>h) (iR ac)))
   aO)
   (ai (aG (cq bR rfl nb.list c7 (aa (kR (Nh (Nl (by decide:1<=64) _) j) (bE (ak 0) rfl) (ak 1) (λ_ _=>rfl)) ac))))),?_⟩
  ext;have b:=rM z t;have val:=xM z t;rw[u]at b;refine⟨C,e,_,m,cl,na.2.2.2,_,rfl,i,rfl,?_⟩;refine⟨_,.inl ⟨_,.inr z,.inl d.dict,rfl,rfl⟩,?_⟩;cases c:t.find? (λx=>decide (x.1=z)) with
  |none=>
   rw[c]at b val;rw[val];rw[q07 (by simp)];exact⟨ar ⋯,x b⟩
  |some y=>
   rw[c]at b val;rw[val];rw[q06 (by simp)];have r:=d.list y (List.mem_of_find?_eq_some c);exact⟨C,e,_,m,cl,na.2.2.2,_,rfl,i,rfl,_,.inl ⟨_,.inr z,.inl d.dict,rfl,val.symm⟩,_,rfl,_,.inl (aI.of r),λl k=>q _ b l _ k ae (af k)⟩
abbrev fk:Stmt:=iJ 46 4
inductive gq(R:RC)(C:Addr)(vs:List V)(H:Hp)(Q:VK)(_E:XK):Prop
 |mk (a dx:Addr) (sg st:Ny) (as:NC) (rs:Yaa) (_:vs=[.ref a]) (_:cL R H C dx a sg st as rs) (_:∀l H',H l=none->H' l=some (.lst ((bb (tx st) rs).map λq=>V.str q.1))->ax H H'->Q (.ref l) H')
theorem qK:az ["self"] ["self"] (am fk):=by walk_at "c"
theorem q_{f:Addr}(F:c8 K "names" "Grammar.names" fk f fd)(nb:NB mg)(cl:iF K C)(na:ay K C "signs"/\ay K C "start"/\ay K C "kept"/\ay K C "numbers"):↑aV 1 f fd ["self"] (gq R C):=by
 have sc:=qK;walk_at "f"
 ·obtain⟨a,j,sg,st,as,rs,rfl,g,q⟩:=h
  obtain⟨lk,c,t,e,hk,hrs,i,d⟩:=id g;have hu:=hr.units;refine⟨_,(ai (aG (cq (xl rfl) rfl nb.list c7 (aa (bE (ak 0) rfl) ac)))),?_⟩;ext;refine⟨C,j,_,e,cl,na.2.2.2,_,rfl,c,rfl,_,i.dict,λl b=>q l _ b ?_ (af b)⟩;rw[ae,<- d];unfold vk iH;rw[MP,MP]
  rfl
abbrev fg:Stmt:=iJ 46 1
inductive gs(R:RC)(C:Addr)(vs:List V)(H:Hp)(Q:VK)(_E:XK):Prop
 |mk (a dx:Addr) (sg st:Ny) (as:NC) (rs:Yaa) (_:vs=[.ref a]) (_:cL R H C dx a sg st as rs) (_:∀l H',H l=none->H' l=some (.lst (as.map V.ref))->ax H H'->Q (.ref l) H')
theorem qo:az ["self"] ["self"] (am fg):=by walk_at "c"
theorem qS{f:Addr}(F:c8 K "rules" "Grammar.rules" fg f fd)(nb:NB mg)(cl:iF K C)(na:ay K C "signs"/\ay K C "start"/\ay K C "kept"/\ay K C "numbers"):↑aV 1 f fd ["self"] (gs R C):=by
 have sc:=qo;walk_at "f"
 ·obtain⟨a,j,sg,st,as,rs,rfl,g,q⟩:=h
  obtain⟨c,pn,t,i,e,hrs,hN,hm⟩:=id g;have hu:=hr.units;refine⟨_,(ai (aG (cq bR rfl nb.list c7 (aa (bE (ak 0) rfl) ac)))),?_⟩;ext;exact⟨C,j,_,i,cl,na.2.2.1,_,rfl,c,rfl,_,.inl (aI.of e),λd b=>q d _ b ae (af b)⟩
abbrev pJ:Stmt:=eU 19
inductive rC(K:W.Frag)(vs:List V)(H:Hp)(Q:VK)(_E:XK):Prop
 |mk (a:Addr) (p:aB) (_:vs=[.ref a]) (_:aI K H a (av p)) (_:eG p) (_:fC H (mirror p) Q)
theorem Bp:az ["picture"] ["picture"] (am pJ):=by walk_at "c"
theorem AU{f:Addr}(F:c8 K "mirror" "mirror" pJ f fd)(nb:NB mg):↑aV 1 f fd ["picture"] (rC K):=by
 have sc:=Bp;walk_at "f"
 ·obtain⟨a,p,rfl,j,g,q⟩:=h
  refine⟨_,(ai (aG (bW ["row"] [] rfl (bv.of (by kernel_rfl)) (by kernel_rfl) (aR (ak 0))
    (λ_ _ _ _=>(au (i:=0) (by show(["row"]:List Str).Nodup;decide +kernel) rfl (Or.inl rfl))) (λ_ _ _ _=>bQ) (λ_ _ _ _=>(pU rfl rfl nb.reversed (aa (ak 0) ac)))))),?_⟩
  ext;refine⟨⟨_,j⟩,dI (xs:=av p) (λi b σ d=>d=H/\b=av (mirror (p.take i))/\i<=p.length/\∃x,σ=[x]) ⟨rfl,rfl,MZ _,_,rfl⟩ ?_ ?_ ?_ ?_ ?_⟩
  ·rintro i b σ d ⟨_,rfl,_⟩
   refine aY ?_;rw[ao];unfold mirror;rw[My,Nf];have:=g.1;omega
  ·rintro i b σ d ⟨_,_,h,_⟩
   rw[ao];exact h
  ·rintro i b σ d ⟨rfl,_⟩
   exact j
  ·rintro i x b σ d e ⟨rfl,rfl,hi,y,rfl⟩
   have c:i<p.length:=by have:=(Mw.mp e).1;rwa [ao]at this
   rw[br c]at e;cases e;have hr:=g.2 _ (MG c);ext;refine⟨by rw[aw];omega,nofun,?_,c⟩;rw[cE,ft,q0E,Mv c];unfold mirror;rw[MN];exact(cV _ _).symm
  ·rintro b σ d ⟨rfl,rfl,_⟩ l c
   rw[ao,Nd];exact q l _ c ae (af c)
abbrev dA:Stmt:=eU 21
inductive sI(K:W.Frag)(vs:List V)(H:Hp)(Q:VK)(_E:XK):Prop
 |mk (a:Addr) (p:aB) (i:Nat) (_:vs=[.ref a,.int (i:Int)]) (_:aI K H a (av p)) (_:eG p) (_:(∀r∈p,i<r.length)) (_:∀H',ax H H'->Q (.str (tx (col p i))) H')
theorem AH:az ["picture","i"] ["picture","i"] (am dA):=by walk_at "c"
theorem Bq{f:Addr}(F:c8 K "column_from_below" "column_from_below" dA f fd)(nb:NB mg):↑aV 1 f fd ["picture","i"] (sI K):=by
 have sc:=AH;walk_at "f"
 ·obtain⟨a,p,i,rfl,v,m,z,q⟩:=h
  refine⟨_,(ai (aG (@vY _ _ _ _ _ _ _ _ (aa (bW ["row"] [1] rfl (bv.of (by kernel_rfl)) (by kernel_rfl) (B4 rfl nb.reversed (aa (ak 0) ac))
    (λ_ _ _ _=>(au (i:=0) (by show(["row","i"]:List Str).Nodup;decide +kernel) rfl (Or.inl rfl))) (λ_ _ _ _=>bQ) (λ_ _ _ _=>(aN lJ (ak 0) (ak 1) (λ_ _=>rfl)))) ac) rfl rfl))),?_⟩
  ext;have hd:∀n,((p.reverse.take n).map λr=>V.str ⟨#[r.getD i 0]⟩)=(((p.reverse.take n).map λr=>r.getD i 0).map λc=>(⟨#[c]⟩:Str)).map V.str:=λn=>by rw[MP,MP];rfl
  refine⟨rfl,_,v,v5 (xs:=av p) (λn b σ g=>g=H/\b=((p.reverse.take n).map λr=>V.str ⟨#[r.getD i 0]⟩)/\n<=p.length/\∃x,σ=[x,some (.int (i:Int))]) ⟨rfl,rfl,MZ _,_,rfl⟩ ?_ ?_ ?_ ?_ ?_⟩
  ·rintro n b σ g ⟨_,rfl,_⟩
   refine aY ?_;rw[My,Nf];have:=m.1;rw[MS];omega
  ·rintro n b σ g ⟨_,_,h,_⟩
   rw[ao];exact h
  ·rintro n b σ g ⟨rfl,_⟩
   exact v
  ·rintro n x b σ g o ⟨rfl,rfl,hn,y,rfl⟩
   have d:n<p.reverse.length:=by
    have:=(Mw.mp o).1
    rwa [MS,ao,<- MS (as:=p)]at this
   have j:(av p.reverse)[n]?=some x:=by unfold av at o ⊢;rwa [List.map_reverse]
   rw[br d]at j;cases j;have u:p.reverse[n]∈p:=List.mem_reverse.mp (MG d);have hr:=m.2 _ u;have k:=z _ u;ext;have B:(tx p.reverse[n]).cps.toList[i]?=some (p.reverse[n].getD i 0):=by rw[cE,q0A,Mv k];rfl
   refine⟨by rw[aw];exact ar ⋯,_,bJ B,?_,by rw[MS]at d;exact d⟩;rw[q0E,Mv d,MN]
   rfl
  ·rintro b σ g ⟨rfl,rfl,_⟩ l d
   rw[ao,<- MS (as:=p),Nd]at *;refine⟨(col p i).map λc=>(⟨#[c]⟩:Str),.inl (aI.of ?_),?_,?_⟩
   ·rw[ae];unfold col;rw[MP,MP];rfl
   ·rw[MP]
    have e:((λy:Str=>y.length)∘λc=>(⟨#[c]⟩:Str))=λ_=>1:=by funext c;rfl
    rw[e,List.map_const',List.sum_replicate_nat,My];have C:(Str.ofString "").length=0:=rfl;rw[C];have:=m.1;unfold col;rw[My,MS];omega
   ·rw[ft];exact q _ (af d)
abbrev lZ:Stmt:=eU 20
inductive g_(K:W.Frag)(vs:List V)(H:Hp)(Q:VK)(_E:XK):Prop
 |mk (a:Addr) (p:aB) (r c:Nat) (_:vs=[.ref a]) (_:aI K H a (av p)) (_:rect p r c) (_:0<r) (_:r<=64) (_:c<=64) (_:fC H (aT p) Q)
theorem yQ:az ["picture"] ["picture"] (am lZ):=by walk_at "c"
theorem yV{f:Addr}(F:c8 K "quarter" "quarter" lZ f fd)(nb:NB mg)(yaB:↑df 1 "column_from_below" ["picture","i"] (sI K)):↑aV 2 f fd ["picture"] (g_ K):=by
 have sc:=yQ;walk_at "f"
 ·obtain⟨a,p,r,c,rfl,C,g,e,o,u,q⟩:=h
  refine⟨_,(ai (aG (bW ["i"] [0] rfl (bv.of (by kernel_rfl)) (by kernel_rfl) (bP rfl nb.range (aa (aC aS rfl nb.len bi (aa (aN bF (ak 0) aj (λ_ _=>rfl)) ac)) ac))
    (λ_ _ _ _=>(au (i:=0) (by show(["i","picture"]:List Str).Nodup;decide +kernel) rfl (Or.inl rfl))) (λ_ _ _ _=>bQ) (λ_ _ _ _=>(aH yaB (hr.mono nofun) rfl aM (aa (ak 1) (aa (ak 0) ac))))))),?_⟩
  ext;have j:0<p.length:=by rw[g.1];exact e
  have v:(p[0]).length=c:=g.2 _ (MG j);have G:(p.headD []).length=c:=aW g e;refine⟨_,C,_,bJ (br j),_,rfl,by rw[aw];exact ar ⋯,by rw[aw];omega,by rw[aw];omega,?_⟩;rw[aw,v,MJ];refine j5 (lo:=0) (n:=c) (λi b σ k=>ax H k/\b=av ((List.range i).map (col p))/\i<=c/\∃x,σ=[x,some (.ref a)]) ⟨ax.refl _,rfl,MZ _,_,rfl⟩ ?_ ?_ ?_ ?_
  ·rintro i b σ k ⟨_,rfl,_⟩
   refine aY ?_;rw[ao,My,q0J];omega
  ·rintro i b σ k ⟨_,_,h,_⟩
   exact h
  ·rintro i b σ k B ⟨d,rfl,_,y,rfl⟩
   ext;refine⟨a,p,i,by simp,d.seq C,eG.of g o u,λx D=>by rw[g.2 x D];exact B,λH2 m=>⟨d.trans m,?_,B⟩⟩;rw[q0M,MN];exact(cV _ _).symm
  ·rintro b σ k ⟨d,rfl,_⟩ l z
   refine q l _ (d.free z) ?_ (d.trans (af z));rw[ae];unfold aT;rw[G]
abbrev pj:Stmt:=eU 18
inductive jf(K:W.Frag)(vs:List V)(H:Hp)(Q:VK)(_E:XK):Prop
 |mk (a:Addr) (p:aB) (r c t:Nat) (_:vs=[.ref a,.int (t:Int)]) (_:aI K H a (av p)) (_:rect p r c) (_:0<r) (_:0<c) (_:r<=64) (_:c<=64) (_:t<8) (_:fC H (turned p t) Q)
theorem AG:az ["picture","t","result","step"] ["picture","t"] (am pj):=by walk_at "c"
theorem A5{f:Addr}(F:c8 K "turned" "turned" pj f fd)(nb:NB mg)(yaQ:↑df 1 "mirror" ["picture"] (rC K))(ybb:↑df 2 "quarter" ["picture"] (g_ K)):↑aV 3 f fd ["picture","t"] (jf K):=by
 have sc:=AG;walk_at "f"
 ·obtain⟨a,p,r,c,t,rfl,hS,hp,hr0,hc0,hr1,hc1,ht,q⟩:=h
  refine⟨_,(ad (q01 2 sc.nd (cq bR rfl nb.list c7 (aa (pv 0) ac)))
   (ad (bB (og HJ (pv 1) aj (aZ _))
   (ai (q01 2 sc.nd (aH yaQ (hr.mono nofun) rfl aM (aa (pv 2) ac))))
   aO)
   (ad (aX PassesOwn.never rfl (rE rfl nb.range (aa (aF bO (pv 1) aj) ac)) (q02 3 sc.nd)
   (ai (q01 2 sc.nd (aH ybb (hr.mono nofun) rfl aM (aa (pv 2) ac)))))
   (ai (aG (pv 2)))))),?_⟩
  ext
  -- the aJ,from the list at l
  have loop:∀(l:Addr) (p':aB) (H1:Hp),H l=none->H1 l=some (.lst (av p'))->ax H H1->rect p' r c->turned p t=aJ (t%4) p' ->
    ∀(g:TG) (tb:TS) (D:fE),g=jN 3->tb=A4 (m8 (g_ K) [] E0 (lD (AQ 2) oz)) (jN 2)->(∀σ' H' v,σ'[2]?=some (some v)->Q v H'->D.nx σ' H')->Am (Af 0 ((t:Int)%4).toNat) g tb D [some (V.ref a),some (V.int t),some (V.ref l),none] H1:=by
   intro l p' H1 hl h1 sm hp' et g tb D hg htb hD;subst hg htb;have e4:((t:Int)%4).toNat=t%4:=by omega
   rw[e4];refine bK (λi σ H2=>∃(l2:Addr) (x:Option V),σ=[some (V.ref a),some (V.int t),some (V.ref l2),x]/\H l2=none/\H2 l2=some (.lst (av (aJ i p')))/\ax H H2) ⟨l,none,rfl,hl,h1,sm⟩ ?_ ?_
   ·rintro i σ H2 hi ⟨l2,x,rfl,h2,h3,sm2⟩
    ext;have hq:=cX i hp' hr0 hc0;have gp:∀r' c',rect (aJ i p') r' c'->0<r'->r'<=64->c'<=64->g_ K [V.ref l2] H2 (λx_1 H1=>∃l2,x_1=V.ref l2/\H l2=none/\H1 l2=some (HO.lst (av (aJ (i+1) p')))/\ax H H1) E0:=λr' c' h4 h5 h6 h7=>
     ⟨l2,aJ i p',r',c',rfl,aI.of h3,h4,h5,h6,h7,λl3 H3 h8 h9 sm3=>⟨l3,rfl,sm2.free h8,by rw[h9,<- cB 1 i p'];rfl,sm2.trans sm3⟩⟩
    by_cases ot:i%2=0
    ·rw[q07 ot,q07 ot]at hq
     exact gp r c hq hr0 hr1 hc1
    ·rw[q06 ot,q06 ot]at hq
     exact gp c r hq hc0 hc1 hr1
   ·rintro σ H2 ⟨l2,x,rfl,h2,h3,sm2⟩
    exact hD _ _ _ rfl (q l2 H2 h2 (by rw[h3,et]) sm2)
  refine⟨_,.inl hS,λl hl=>?_⟩
  split
  ·rename_i h4
   refine⟨l,p,rfl,aI.of ae,eG.of hp hr1 hc1,λl2 H2 h2 h3 sm2=>⟨⋯,⋯,?_⟩⟩;refine loop l2 (mirror p) H2 ((af hl).free h2) h3 ((af hl).trans sm2) (bT hp) (by unfold turned;rw[q07 ⋯]) _ _ _ rfl rfl ?_;intro σ' H' v e hq;exact⟨v,e,hq⟩
  ·rename_i h4
   refine⟨⋯,⋯,?_⟩;refine loop l p _ hl ae (af hl) hp (by unfold turned;rw[q06 ⋯]) _ _ _ rfl rfl ?_;intro σ' H' v e hq;exact⟨v,e,hq⟩
def gM(r:Nat×RV):List V:=match r.1 with
 |0=>[.str (tx r.2.n),.int r.2.c,.int 0,.str (tx r.2.sg),.str ""]
 |1=>[.str (tx r.2.n),.int r.2.c,.int 1,.str (tx r.2.o1),.str (tx r.2.o2)]
 |2=>[.str (tx r.2.n),.int r.2.c,.int 2,.str (tx r.2.o1),.str (tx r.2.o2)]
 |_=>[.str (tx r.2.n),.int r.2.c,.int 3,.str (tx r.2.o1),.int r.2.t]
def gj(H:Hp)(l:Addr)(ts:NC)(rs:Yaa):Prop:=H l=some (.lst (ts.map V.ref))/\ts.length=rs.length/\∀(i:Nat) t r,ts[i]?=some t->rs[i]?=some r->H t=some (.tup (gM r))
theorem gj.up(h:gj H l ts rs)(s:ax H H'):gj H' l ts rs:=⟨s _ _ h.1,h.2.1,λi t r e1 e2=>s _ _ (h.2.2 i t r e1 e2)⟩
theorem eC{k:Nat}(h:k<4):k=0\/k=1\/k=2\/k=3:=by omega
structure jP(r:Nat×RV):Prop where
 k4:r.1<4
 good:r.2.good
 small:r.2.small
abbrev oY:Stmt:=eU 71
inductive mO(R:RC)(vs:List V)(H:Hp)(Q:VK)(_E:XK):Prop
 |mk (t:Addr) (r:Nat×RV) (_:vs=[.ref t]) (_:H t=some (.tup (gM r))) (_:jP r) (_:∀b H',gu R H' r.1 b r.2->ax H H'->Q (.ref b) H')
theorem Bd:az ["_law_rule_here"] ["_law_rule_here"] (am oY):=by walk_at "c"
theorem AA{f:Addr}(F:c8 K "_law_rule" "_law_rule" oY f fd)(nb:NB mg)(rk:mR K R)
  (zhb:↑l_ 4 "CellRule" R.cc ["self","name","cost","sign"] (ii K)) (zOa:↑l_ 4 "BesideRule" R.cb ["self","name","cost","one","other"] (dw K))
  (zSa:↑l_ 4 "AboveRule" R.ca ["self","name","cost","one","other"] (dw K)) (zib:↑l_ 4 "TurnRule" R.ct ["self","name","cost","part","turning"] (hV K)):↑aV 6 f fd ["_law_rule_here"] (mO R):=by
 have sc:=Bd;walk_at "f"
 ·obtain⟨t,⟨k,v⟩,rfl,B,⟨C,g,r⟩,good⟩:=h
  refine⟨_,(ad (bB (aK gI (aN aQ (ak 0) aj (λ_ _=>rfl)) aj (aZ _))
   (ai (aG (jo zhb (hr.mono nofun) rfl aM (aa (aN aQ (ak 0) aj (λ_ _=>rfl)) (aa (aN aQ (ak 0) aj (λ_ _=>rfl)) (aa (aN aQ (ak 0) aj (λ_ _=>rfl)) ac))))))
   aO)
   (ad (bB (aK gI (aN aQ (ak 0) aj (λ_ _=>rfl)) aj (aZ _))
   (ai (aG (jo zOa (hr.mono nofun) rfl aM (aa (aN aQ (ak 0) aj (λ_ _=>rfl)) (aa (aN aQ (ak 0) aj (λ_ _=>rfl)) (aa (aN aQ (ak 0) aj (λ_ _=>rfl)) (aa (aN aQ (ak 0) aj (λ_ _=>rfl)) ac)))))))
   aO)
   (ad (bB (aK gI (aN aQ (ak 0) aj (λ_ _=>rfl)) aj (aZ _))
   (ai (aG (jo zSa (hr.mono nofun) rfl aM (aa (aN aQ (ak 0) aj (λ_ _=>rfl)) (aa (aN aQ (ak 0) aj (λ_ _=>rfl)) (aa (aN aQ (ak 0) aj (λ_ _=>rfl)) (aa (aN aQ (ak 0) aj (λ_ _=>rfl)) ac)))))))
   aO)
   (ai (aG (jo zib (hr.mono nofun) rfl aM (aa (aN aQ (ak 0) aj (λ_ _=>rfl)) (aa (aN aQ (ak 0) aj (λ_ _=>rfl)) (aa (aN aQ (ak 0) aj (λ_ _=>rfl)) (aa (aN aQ (ak 0) aj (λ_ _=>rfl)) ac)))))))))),?_⟩
  have a:=cy.of (K:=K) B;have g:v.good:=g;have r:v.small:=g.small;have u:v.n.length<=100000:=by have:=r.n;omega
  have y:v.o1.length<=100000:=by have:=r.o1;omega
  have z:v.o2.length<=100000:=by have:=r.o2;omega
  have bs:v.sg.length<=100000:=by have:=r.sg;omega
  ext;rcases eC C with rfl | rfl | rfl | rfl
  ·change cy K H t [.str (tx v.n),.int v.c,.int 0,.str (tx v.sg),.str ""]at a
   refine⟨_,a,_,rfl,rfl,?_⟩;rw[q07 rfl];refine⟨_,a,_,rfl,_,a,_,rfl,_,a,_,rfl,λx d j o m=>?_⟩;exact⟨x,R.cc,d,v.n,v.sg,v.c,rfl,ae,rk.i0.cl,rk.a0,u,bs,g.ok 0,λi q e l b p=>⟨rfl,good x q ⟨d,i,p,b⟩ (jz j o e)⟩⟩
  ·change cy K H t [.str (tx v.n),.int v.c,.int 1,.str (tx v.o1),.str (tx v.o2)]at a
   refine⟨_,a,_,rfl,rfl,?_⟩;rw[q06 nofun];refine⟨_,a,_,rfl,rfl,?_⟩;rw[q07 rfl];refine⟨_,a,_,rfl,_,a,_,rfl,_,a,_,rfl,_,a,_,rfl,λx d j o m=>?_⟩;exact⟨x,R.cb,d,v.n,v.o1,v.o2,v.c,rfl,ae,rk.i1.cl,rk.a1,u,y,z,g.ok 1,λi q e l b p=>⟨rfl,good x q ⟨d,i,p,b⟩ (jz j o e)⟩⟩
  ·change cy K H t [.str (tx v.n),.int v.c,.int 2,.str (tx v.o1),.str (tx v.o2)]at a
   refine⟨_,a,_,rfl,rfl,?_⟩;rw[q06 nofun];refine⟨_,a,_,rfl,rfl,?_⟩;rw[q06 nofun];refine⟨_,a,_,rfl,rfl,?_⟩;rw[q07 rfl];refine⟨_,a,_,rfl,_,a,_,rfl,_,a,_,rfl,_,a,_,rfl,λx d j o m=>?_⟩;exact⟨x,R.ca,d,v.n,v.o1,v.o2,v.c,rfl,ae,rk.i2.cl,rk.a2,u,y,z,g.ok 2,λi q e l b p=>⟨rfl,good x q ⟨d,i,p,b⟩ (jz j o e)⟩⟩
  ·change cy K H t [.str (tx v.n),.int v.c,.int 3,.str (tx v.o1),.int v.t]at a
   refine⟨_,a,_,rfl,rfl,?_⟩;rw[q06 nofun];refine⟨_,a,_,rfl,rfl,?_⟩;rw[q06 nofun];refine⟨_,a,_,rfl,rfl,?_⟩;rw[q06 nofun];refine⟨_,a,_,rfl,_,a,_,rfl,_,a,_,rfl,_,a,_,rfl,λx d j o m=>?_⟩;exact⟨x,R.ct,d,v.n,v.o1,v.c,v.t,rfl,ae,rk.i3.cl,rk.a3,u,y,g.ok 3,λi q e l b p=>⟨rfl,good x q ⟨d,i,p,b⟩ (jz j o e)⟩⟩
structure kN(p:aB)(sg:Ny)(r:Nat×RV):Prop where
 good:jP r
 n:r.2.n∈p
 o1:r.2.o1∈p
 o2:r.2.o2∈p
 sg:∃c∈sg,r.2.sg=[c]
theorem gj.app{t:Addr}(h:gj H l ts rs)(ht:H t=some (.tup (gM r))):gj (aD H l (.lst (ts.map V.ref++[V.ref t]))) l (ts++[t]) (rs++[r]):=by
 obtain⟨h1,h2,k⟩:=h;refine⟨by rw[ae,MN];rfl,by rw[MX,MX,h2];rfl,λi c d b g=>?_⟩;have a:∀c d,H c=some (.tup (gM d))->aD H l (.lst (ts.map V.ref++[V.ref t])) c=some (.tup (gM d)):=λc d e=>by
  rw[aq (λz=>by rw[z,h1]at e;cases e)];exact e
 by_cases j:i<ts.length
 ·rw[MW j]at b
  rw[MW ⋯]at g;exact a _ _ (k i c d b g)
 ·rw[MV ⋯]at b
  rw[MV ⋯]at g;have ot:i=ts.length:=by
   have:=(Mw.mp b).1;simp at this;omega
  subst ot;rw[Nat.sub_self]at b;rw[h2,Nat.sub_self]at g;cases b;cases g
  exact a _ _ ht
theorem vn(h:dy r=true):ir r oQ=true:=by
 unfold dy at h;simp only[q0O,q0a]at h;exact h.1.2
theorem tP{c:Nat}(h:dy r=true)(hc:c∈r):i5 [c]=true:=by
 have:=vn h;unfold ir at this;rw[Nk]at this;unfold i5 ir;rw[List.all_cons,this c hc]
 rfl
def addNew(ks:NG)(z:Str):List Str:=if z∈ks then ks else ks++[z]
theorem rF(m:List (Str×List Nat))(z:Str):(b_ m z).map (·.1)=addNew (m.map (·.1)) z:=by
 unfold b_ addNew
 split
 ·rfl
 ·rw[MN];rfl
theorem ou:∀(zs:NG) (m:List (Str×List Nat)),(zs.foldl b_ m).map (·.1)=zs.foldl addNew (m.map (·.1))
 | [],_=>rfl
 |z::zs,m=>by rw[List.foldl_cons,List.foldl_cons,ou zs,rF]
theorem Al(m:List (Str×List Nat))(i:Nat)(r:Nat×RV):(d_ m i r).map (·.1)=(tx r.2.n::(cv r.1 r.2).map tx).foldl addNew (m.map (·.1)):=by
 unfold d_;rw[ou,gY,rF,List.foldl_cons]
def jR(z:Str)(rs:Yaa):List Nat:=rs.zipIdx.filterMap λx=>if tx x.1.2.n=z then some x.2 else none
theorem wV(z:Str)(rs:Yaa)(r:Nat×RV):jR z (rs++[r])=jR z rs++if tx r.2.n=z then[rs.length] else[]:=by
 unfold jR;rw[List.zipIdx_append,List.filterMap_append]
 congr 1
 simp
 split<;>rename_i h<;>simp[h]
theorem xw{z:Str}:∀{rs:Yaa},(∀r∈rs,tx r.2.n≠z)->jR z rs=[]:=by
 intro rs h;unfold jR;rw[List.filterMap_eq_nil_iff];intro x a;rw[q06 (h x.1 (List.fst_mem_of_mem_zipIdx a))]
structure NI(rs:Yaa)(m:List (Str×List Nat)):Prop where
 nd:(m.map (·.1)).Nodup
 ix:∀q∈m,q.2=jR q.1 rs
 all:∀r∈rs,tx r.2.n∈m.map (·.1)
theorem pO{y:Str}:y∈(b_ m z).map (·.1)↔y∈m.map (·.1)\/y=z:=by
 unfold b_
 split
 ·rename_i h
  exact⟨λq=>.inl q,λq=>q.elim id λe=>e▸h⟩
 ·rw[MN,MO];simp
theorem NI.name(h:NI rs m)(z:Str):NI rs (b_ m z):=by
 refine⟨ly h.nd,λq hq=>?_,λr hr=>pO.mpr (.inl (h.all r hr))⟩;unfold b_ at hq
 split at hq
 ·exact h.ix q hq
 ·rename_i hz
  rcases MO.mp hq with q1 | q1
  ·exact h.ix q q1
  ·rw[Mz.mp q1]
   exact(xw (z:=z) λr hr e=>hz (by rw[<- e];exact h.all r hr)).symm
theorem NI.names:∀(zs:NG) {m:List (Str×List Nat)},NI rs m->NI rs (zs.foldl b_ m)
 | [],_,h=>h
 |z::zs,m,h=>NI.names zs (h.name z)
theorem NI.put{r:Nat×RV}(h:NI rs m)(hn:tx r.2.n∈m.map (·.1)):NI (rs++[r]) (iw m (tx r.2.n) rs.length):=by
 refine⟨by rw[gY];exact h.nd,λq b=>?_,λd a=>?_⟩
 ·unfold iw at b
  obtain⟨p,c,rfl⟩:=Nj.mp b;rw[wV]
  by_cases e:p.1=tx r.2.n
  ·rw[q07 e]
   show p.2++[rs.length]=jR p.1 rs++_;rw[q07 e.symm,h.ix p c]
  ·rw[q06 e,q06 (λz=>e z.symm),Na]
   exact h.ix p c
 ·rw[gY]
  rcases MO.mp a with q | q
  ·exact h.all d q
  ·rw[Mz.mp q];exact hn
theorem jl(z:Str):∀(n:Nat) (rs:Yaa),rs.length=n->NI rs (bb z rs)
 |0,rs,h=>by
  rw[Ni.mp h];exact⟨by simp[bb,fw],λq hq=>by rw[show q=(z,[]) by simpa[bb,fw]using hq];rfl,λr hr=>nomatch hr⟩
 |n+1,rs,h=>by
  obtain⟨rs',r,rfl⟩:∃rs' r,rs=rs'++[r]:=⟨rs.dropLast,rs.getLast (by intro e;rw[e]at h;cases h),(List.dropLast_concat_getLast _).symm⟩;have hl:rs'.length=n:=by rw[MX,q0Y]at h;omega
  have a:=jl z n rs' hl;unfold bb at a ⊢;rw[gc,Nat.zero_add];unfold d_;exact((a.name (tx r.2.n)).put (pO.mpr (.inr rfl))).names _
theorem rZ:∀{m:List (Str×List Nat)} {q:Str×List Nat},(m.map (·.1)).Nodup->q∈m->m.lookup q.1=some q.2
 |p::m,q,hnd,hq=>by
  rw[M8,q0b]at hnd;rw[List.lookup_cons];rcases MQ.mp hq with e | e
  ·rw[e];simp
  ·have hne:q.1≠p.1:=λz=>hnd.1 (z▸List.mem_map_of_mem e)
   have:(q.1==p.1)=false:=beq_eq_false_iff_ne.mpr hne;rw[this];exact rZ hnd.2 e
theorem ED{q:Str×List Nat}(h:q∈bb z rs):(bb z rs).lookup q.1=some (jR q.1 rs)/\q.2=jR q.1 rs:=by
 have N:=jl z _ rs rfl;have e:=N.ix q h;exact⟨by rw[rZ N.nd h,e],e⟩
theorem yg{Q:List V->Hp->Prop}(hR:gj H l ts rs)(hg:∀r∈rs,jP r)(hn:rs.length<=100)(q:∀(as:NC) H',ax H H'->bX R H' as rs->Q (as.map V.ref) H') :
  fN (AX K l) (jN 0) yY (m8 (mO R) [] E0 (lD (AQ 0) oz)) [none] H Q:=by
 obtain⟨D,v,w⟩:=hR;refine dI (xs:=ts.map V.ref) (λi c σ H'=>ax H H'/\(∃as:List Addr,c=as.map V.ref/\bX R H' as (rs.take i))/\i<=ts.length/\∃x,σ=[x]) ⟨ax.refl _,⟨[],rfl,rfl,λi a r e=>by simp at e⟩,MZ _,_,rfl⟩ ?_ ?_ ?_ ?_ ?_
 ·rintro i c σ H' ⟨_,⟨as,rfl,h,_⟩,G,_⟩
  rw[My,h,Nf];exact aY ⋯
 ·rintro i c σ H' ⟨_,_,h,_⟩
  rw[My];exact h
 ·rintro i c σ H' ⟨k,_⟩
  exact aI.of (k _ _ D)
 ·rintro i x c σ H' u ⟨k,⟨as,rfl,d⟩,G,y,rfl⟩
  have g:i<ts.length:=by have:=(Mw.mp u).1;rwa [My]at this
  rw[MA,Mv g]at u;cases u;have o:i<rs.length:=by omega
  have n:rs[i]?=some rs[i]:=Mv o;have C:=k _ _ (w i ts[i] rs[i] (Mv g) n);ext;refine⟨ts[i],rs[i],rfl,C,hg _ (MG o),λb H2 I z=>⟨k.trans z,⟨as++[b],by rw[MN];rfl,?_⟩,g⟩⟩;have hal:as.length=i:=by have:=d.1;rw[Nf]at this;omega
  rw[q0E,n];refine⟨by rw[MX,MX,d.1];rfl,λj a r m p=>?_⟩
  by_cases B:j<as.length
  ·rw[MW B]at m
   rw[MW (by rw[<- d.1];exact B)]at p;exact(d.2 j a r m p).up z
  ·rw[MV ⋯]at m
   rw[MV (by rw[<- d.1];omega)]at p;have:j-as.length=0:=by
    have:=(Mw.mp m).1;simp at this;omega
   rw[this]at m;rw[<- d.1,this]at p;cases m;cases p
   exact I
 ·rintro c σ H' ⟨k,⟨as,rfl,d⟩,_⟩
  rw[My,v,Nd]at d;exact q as H' k d
def Ho(rs:Yaa):List ThM.NR:=rs.map λr=>(tx r.2.n,(cv r.1 r.2).map tx)
theorem yR{ks:NG}{y:Str}:y∈addNew ks z↔y∈ks\/y=z:=ThM.mem_addNew
theorem kJ{y:Str}:∀(zs ks:NG),y∈zs.foldl addNew ks↔y∈ks\/y∈zs
 | [],ks=>by simp
 |z::zs,ks=>by
  rw[List.foldl_cons,kJ zs,yR,MQ];exact⟨λh=>h.elim (λh=>h.elim .inl λe=>.inr (.inl e)) λh=>.inr (.inr h),λh=>h.elim (λh=>.inl (.inl h)) λh=>h.elim (λe=>.inl (.inr e)) .inr⟩
theorem Aw(z:Str)(rs:Yaa)(r:Nat×RV):(bb z (rs++[r])).map (·.1)=(tx r.2.n::(cv r.1 r.2).map tx).foldl addNew ((bb z rs).map (·.1)):=by
 unfold bb;rw[gc,Al]
theorem CI{α:Type}{P:List α->Prop}(h0:P [])(h1:∀rs r,P rs->P (rs++[r]))(rs:List α):P rs:=by
 have:∀(n:Nat) (rs:List α),rs.length=n->P rs:=by
  intro n
  induction n with
  |zero=>intro rs h;rw[Ni.mp h];exact h0
  |succ n ih=>
   intro rs h;have a:rs≠[]:=by intro e;rw[e]at h;cases h
   rw[<- List.dropLast_concat_getLast a];exact h1 _ _ (ih _ (by rw[List.length_dropLast];omega))
 exact this _ rs rfl
theorem oG(z:Str)(rs:Yaa):∀y,y∈(bb z rs).map (·.1)↔y=z\/∃r∈Ho rs,y=r.1\/y∈r.2:=by
 refine CI (P:=λrs=>∀y,y∈(bb z rs).map (·.1)↔y=z\/∃r∈Ho rs,y=r.1\/y∈r.2) ?_ ?_ rs
 ·intro y
  have e:(bb z []).map (·.1)=[z]:=rfl;rw[e];unfold Ho;simp
 ·intro rs r a y
  rw[Aw,kJ,a y,MQ];unfold Ho;rw[MN]
  constructor
  ·rintro((h | ⟨q,hq,h⟩) | h)
   ·exact .inl h
   ·exact .inr ⟨q,MO.mpr (.inl hq),h⟩
   ·exact .inr ⟨_,MO.mpr (.inr (Mz.mpr rfl)),h⟩
  ·rintro(h | ⟨q,hq,h⟩)
   ·exact .inl (.inl h)
   ·rcases MO.mp hq with hq | hq
    ·exact .inl (.inr ⟨q,hq,h⟩)
    ·rw[Mz.mp hq]at h
     exact .inr h
theorem EM{sg:Ny}{c:Nat}(h:c∈sg):HE (tx sg) (tx [c])=true:=by
 have:=StrLaws.found_one (tx sg) c;show(!(Builtin.Str.occurrences (tx sg) ⟨#[c]⟩ 0 (tx sg).length 1).isEmpty)=true;rw[this,cE,q09 h]
theorem ku{sg:Ny}:∀{rs:Yaa} {j:Nat},(∀r∈rs,∃c∈sg,r.2.sg=[c])->fV (tx sg) rs j=none
 | [],_,_=>rfl
 |r::rs,j,h=>by
  obtain⟨c,hc,e⟩:=h r q0B;unfold fV;rw[q06 (λz=>by rw[e,EM hc]at z;exact q0Q z.2 nofun)];exact ku λr' hr'=>h r' (MR _ hr')
theorem AN{p:aB}{st:Ny}{rs:Yaa}(hsg:dy sg=true)(hst:st∈p)(hpn:∀r∈p,dg r=true)(hp:p.length<=8)(hn:rs.length<=24)(hr:∀r∈rs,kN p sg r):oM sg st rs=none:=by
 have i:gZ sg st rs=none:=by
  unfold gZ;rw[q06 (by rw[hsg];decide),q06 (by rw[hpn _ hst];decide),q06 ⋯,ku λr h=>(hr r h).sg]
 unfold oM;rw[i];simp only[];rw[q06];have g:∀z∈(bb (tx st) rs).map (·.1),z∈p.map tx:=λz d=>by
  rcases(oG _ _ _).mp d with e | ⟨q,c,e⟩
  ·rw[e];exact List.mem_map_of_mem hst
  ·unfold Ho at c
   obtain⟨r,b,rfl⟩:=Nj.mp c;have R:=hr r b;rcases e with e | e
   ·rw[e];exact List.mem_map_of_mem R.n
   ·obtain⟨y,a,rfl⟩:=Nj.mp e
    refine List.mem_map_of_mem ?_;obtain⟨k,v⟩:=r;rcases eC R.good.k4 with rfl | rfl | rfl | rfl
    ·exact q0Q a List.not_mem_nil
    ·rcases(show y=v.o1\/y=v.o2 by simpa[cv]using a) with rfl | rfl
     ·exact R.o1
     ·exact R.o2
    ·rcases(show y=v.o1\/y=v.o2 by simpa[cv]using a) with rfl | rfl
     ·exact R.o1
     ·exact R.o2
    ·rw[show y=v.o1 by simpa[cv]using a];exact R.o1
 have:=ThM.nd_len (jl (tx st) _ rs rfl).nd g;rw[My,My]at this;omega
theorem bX.zip(h:bX R H as rs):(as.zip rs).map (λx=>V.ref x.1)=as.map V.ref/\(as.zip rs).map (·.2)=rs/\∀x∈as.zip rs,gu R H x.2.1 x.1 x.2.2:=by
 refine⟨?_,List.map_snd_zip (by have:=h.1;omega),λx b=>?_⟩
 ·have e:(as.zip rs).map (λx=>V.ref x.1)=((as.zip rs).map Prod.fst).map V.ref:=by rw[MP];rfl
  rw[e,List.map_fst_zip (by have:=h.1;omega)]
 ·obtain⟨i,c,e⟩:=List.mem_iff_getElem.mp b
  have a:(as.zip rs)[i]?=some x:=by rw[Mv c,e]
  rw[List.getElem?_zip_eq_some]at a;exact h.2 i x.1 x.2 a.1 a.2
structure JI(K:W.Frag)(C:Addr):Prop where
 cl:jE K C
 na:ay K C "signs"/\ay K C "start"/\ay K C "kept"/\ay K C "numbers"
abbrev uf:Stmt:=eU 10
theorem F6(x:Str):x=tx x.cps.toList:=by unfold tx;simp
theorem E_(p:aB):Txt.join (Str.ofString "/") (p.map tx)=tx (SpM.glue 47 p):=by
 have e:(Txt.join (Str.ofString "/") (p.map tx)).cps.toList=SpM.glue 47 p:=by
  have h:=SpM.join_glue 47 (p.map tx);rw[MP]at h;have a:((λy:Str=>y.cps.toList)∘tx)=id:=by funext r;exact cE r
  rw[a,List.map_id]at h;exact h
 rw[<- e];exact F6 _
inductive dR(K:W.Frag)(vs:List V)(H:Hp)(Q:VK)(_E:XK):Prop
 |mk (a:Addr) (p:aB) (_:vs=[.ref a]) (_:H a=some (.lst (av p))) (_:eG p) (_:Q (.str (tx (SpM.glue 47 p))) H)
theorem CU:az ["picture"] ["picture"] (am uf):=by walk_at "c"
theorem rS:∀{p:aB} {n:Nat},(∀r∈p,r.length<=n)->((p.map tx).map λy:Str=>y.length).sum<=p.length*n
 | [],n,_=>by simp
 |r::p,n,h=>by
  have h1:=h r (by simp);have h2:=rS (p:=p) (n:=n) λx hx=>h x (by simp[hx]);simp only[M8,List.sum_cons,aw,MM];rw[Nat.succ_mul];omega
theorem BR{f:Addr}(F:c8 K "shown" "shown" uf f fd):↑aV 1 f fd ["picture"] (dR K):=by
 have sc:=CU;walk_at "f"
 ·obtain⟨a,p,rfl,c,b,q⟩:=h
  refine⟨_,(ai (aG (@vY _ _ _ _ _ _ _ _ (aa (ak 0) ac) rfl rfl))),?_⟩;ext;refine⟨rfl,p.map tx,.inl (by rw[<- dY];exact aI.of c),?_,?_⟩
  ·have:=rS b.2
   have h1:=b.1;have d:(Str.ofString "/").length=1:=rfl;rw[My,d];have h2:p.length*64<=64*64:=Nat.mul_le_mul_right _ h1;omega
  ·rw[E_];exact q
abbrev o8:Stmt:=eU 15
def rQ(sb:Bool)(p:aB)(n:Nat):aB:=if sb=true then p.map (List.take n) else p.take n
def mh(sb:Bool)(p:aB)(n:Nat):aB:=if sb=true then p.map (List.drop n) else p.drop n
inductive rX(K:W.Frag)(vs:List V)(H:Hp)(Q:VK)(_E:XK):Prop
 |mk (sb:Bool) (a:Addr) (p:aB) (r c n:Nat) (_:vs=[.ref a,.bl sb,.int (n:Int)]) (_:aI K H a (av p)) (_:rect p r c) (_:r<=6) (_:c<=6) (_:n<=(if sb=true then c else r)) (_:∀(t l1 l2:Addr) (H':Hp),H t=none->H l1=none->H l2=none->l1≠l2->H' t=some (.tup [.ref l1,.ref l2])->H' l1=some (.lst (av (rQ sb p n)))->H' l2=some (.lst (av (mh sb p n)))->ax H H'->Q (.ref t) H')
theorem AS:az ["picture","side_by_side","at"] ["picture","side_by_side","at"] (am o8):=by walk_at "c"
theorem vz{row:Ny}{n:Nat}(h:n<=row.length):Txt.slice (tx row) none (some (n:Int))=tx (row.take n):=by
 rw[mG,HT.sIx_nat,Nr h];show tx ((row.drop 0).take (n-0))=_;rw[Nt,Nat.sub_zero]
theorem p8{row:Ny}{n:Nat}(h:n<=row.length):Txt.slice (tx row) (some (n:Int)) none=tx (row.drop n):=by
 rw[mG,HT.sIx_nat,Nr h];show tx ((row.drop n).take (row.length-n))=_;rw[q0F (by rw[Ng];omega)]
theorem G7{p:aB}{n:Nat}(h:n<=p.length):jW (av p) none (some (n:Int))=av (p.take n):=by
 unfold jW;rw[HT.sIx_nat,ao,Nr h];show((av p).drop 0).take (n-0)=_;rw[Nt,Nat.sub_zero];unfold av;rw[List.map_take]
theorem Cn{p:aB}{n:Nat}(h:n<=p.length):jW (av p) (some (n:Int)) none=av (p.drop n):=by
 unfold jW;rw[HT.sIx_nat,ao,Nr h];show((av p).drop n).take (p.length-n)=_;rw[q0F (by rw[Ng,ao];omega)];unfold av;rw[List.map_drop]
theorem AI{f:Addr}(F:c8 K "parted" "parted" o8 f fd)(nb:NB mg):↑aV 1 f fd ["picture","side_by_side","at"] (rX K):=by
 have sc:=AS;walk_at "f"
 ·obtain⟨L,a,p,r,c,n,rfl,C,B,hr1,hc1,G,q⟩:=h
  refine⟨_,(ad (bB (cR (ak 1) λ_=>rfl)
   (ai (aG (bH (aa (bW ["row"] [2] rfl (bv.of (by kernel_rfl)) (by kernel_rfl) (aR (ak 0))
    (λ_ _ _ _=>(au (i:=0) (by show(["row","at"]:List Str).Nodup;decide +kernel) rfl (Or.inl rfl))) (λ_ _ _ _=>bQ) (λ_ _ _ _=>(dh pF (ak 0) fS (cz (ak 1))))) (aa (bW ["row"] [2] rfl (bv.of (by kernel_rfl)) (by kernel_rfl) (aR (ak 0))
    (λ_ _ _ _=>(au (i:=0) (by show(["row","at"]:List Str).Nodup;decide +kernel) rfl (Or.inl rfl))) (λ_ _ _ _=>bQ) (λ_ _ _ _=>(dh pF (ak 0) (cz (ak 1)) fS))) ac)))))
   aO)
   (ai (aG (bH (aa (dh oh (ak 0) fS (cz (ak 2))) (aa (dh oh (ak 0) (cz (ak 2)) fS) ac)))))),?_⟩
  ext;cases L with
  |true=>
   rw[q07 rfl]at G ⊢;refine⟨⟨_,C⟩,dI (xs:=av p) (λi b σ m=>m=H/\b=av ((p.take i).map (List.take n))/\i<=p.length/\∃y,σ=[y,some (V.int (n:Int))]) ⟨rfl,rfl,MZ _,_,rfl⟩ ?_ ?_ ?_ ?_ ?_⟩
   ·rintro i b σ m ⟨_,rfl,J,_⟩
    rw[ao,My,Nf];exact aY (by rw[B.1]at *;omega)
   ·rintro i b σ m ⟨_,_,h,_⟩
    rw[ao];exact h
   ·rintro i b σ m ⟨rfl,_⟩
    exact C
   ·rintro i v b σ m z ⟨rfl,rfl,J,y,rfl⟩
    have u:i<p.length:=by have:=(Mw.mp z).1;rwa [ao]at this
    rw[br u]at z;cases z;have D:=B.2 _ (MG u);ext;refine⟨by rw[aw];exact ar ⋯,?_,u⟩;rw[vz ⋯,q0E,Mv u,MN];exact(cV _ _).symm
   ·rintro b σ m ⟨rfl,rfl,_⟩ g k
    rw[ao,Nd];have j:ax m (aD m g (HO.lst (av (p.map (List.take n))))):=af k;have h1:aD m g (HO.lst (av (p.map (List.take n)))) g=some (HO.lst (av (p.map (List.take n)))):=ae;generalize aD m g (HO.lst (av (p.map (List.take n))))=H1 at j h1 ⊢;refine⟨⟨_,j.seq C⟩,dI (xs:=av p) (λi b σ H2=>H2=H1/\b=av ((p.take i).map (List.drop n))/\i<=p.length/\∃y,σ=[y,some (V.int (n:Int))]) ⟨rfl,rfl,MZ _,_,rfl⟩ ?_ ?_ ?_ ?_ ?_⟩
    ·rintro i b σ H2 ⟨_,rfl,J,_⟩
     rw[ao,My,Nf];exact aY (by rw[B.1]at *;omega)
    ·rintro i b σ H2 ⟨_,_,h,_⟩
     rw[ao];exact h
    ·rintro i b σ H2 ⟨rfl,_⟩
     exact j.seq C
    ·rintro i v b σ H2 z ⟨rfl,rfl,J,y,rfl⟩
     have u:i<p.length:=by have:=(Mw.mp z).1;rwa [ao]at this
     rw[br u]at z;cases z;have D:=B.2 _ (MG u);ext;refine⟨by rw[aw];exact ar ⋯,?_,u⟩;rw[p8 ⋯,q0E,Mv u,MN];exact(cV _ _).symm
    ·rintro b σ H2 ⟨rfl,rfl,_⟩ x e
     rw[ao,Nd];refine⟨ar ⋯,λt l=>?_⟩;have I:g≠x:=aA h1 e;have d:∀o,ax H2 (aD H2 x o):=λo=>af e;refine q t g x _ ?_ k (j.free e) I ae ?_ ?_ ((j.trans (d _)).trans (af l))
     ·exact j.free ((d _).free l)
     ·exact(af l) _ _ ((d _) _ _ h1)
     ·exact(af l) _ _ ae
  |false=>
   rw[q06 nofun]at G ⊢;refine⟨_,C,λg k=>?_⟩;rw[G7 (by rw[B.1];exact G)];have j:ax H (aD H g (HO.lst (av (p.take n)))):=af k;have h1:aD H g (HO.lst (av (p.take n))) g=some (HO.lst (av (p.take n))):=ae;generalize aD H g (HO.lst (av (p.take n)))=H1 at j h1 ⊢;refine⟨_,j.seq C,λx e=>⟨ar ⋯,λt l=>?_⟩⟩;rw[Cn (by rw[B.1];exact G)]at l ⊢;have I:g≠x:=aA h1 e;have d:∀o,ax H1 (aD H1 x o):=λo=>af e;refine q t g x _ ?_ k (j.free e) I ae ?_ ?_ ((j.trans (d _)).trans (af l))
   ·exact j.free ((d _).free l)
   ·exact(af l) _ _ ((d _) _ _ h1)
   ·exact(af l) _ _ ae
abbrev xh:Stmt:=eU 23
inductive zm(vs:List V)(H:Hp)(Q:VK)(_E:XK):Prop
 |mk (t:Nat) (_:vs=[.int (t:Int)]) (_:t<8) (_:Q (.int (cW t:Nat)) H)
theorem EI:az ["t"] ["t"] (am xh):=by walk_at "c"
theorem Ef{f:Addr}(F:c8 K "back" "back" xh f fd):↑aV 1 f fd ["t"] zm:=by
 have sc:=EI;walk_at "f"
 ·obtain⟨t,rfl,ht,q⟩:=h
  refine⟨_,(ad (bB (aK (bC.m0 sH) (ak 0) aj (aZ _))
   (ai (aG (aF (bC.m1 bO) (aF (bC.m0 lP) aj (ak 0)) aj)))
   aO)
   (ai (aG (ak 0)))),?_⟩
  ext
  split
  ·have e:((cW t:Nat):Int)=(4-(t:Int))%4:=by unfold cW;rw[q07 ⋯];omega
   rw[<- e];exact q
  ·have e:((cW t:Nat):Int)=(t:Int):=by unfold cW;rw[q06 ⋯]
   rw[<- e];exact q
abbrev ig:Stmt:=eU 11
def bZ(H:Hp):List Addr->List Wn->Prop
 | [],[]=>True
 |b::bs,x::xs=>H b=some (.tup (x.map V.int))/\bZ H bs xs
 |_,_=>False
theorem bZ.same(sm:ax H H'):∀{bs:NC} {xs:List Wn},bZ H bs xs->bZ H' bs xs
 | [],[],_=>trivial
 |_::_,_::_,h=>⟨sm _ _ h.1,bZ.same sm h.2⟩
 | [],_::_,h=>h.elim
 |_::_,[],h=>h.elim
theorem bZ.snoc{H:Hp}{x:Wn}(hb:H b=some (.tup (x.map V.int))):∀{bs:NC} {xs:List Wn},bZ H bs xs->bZ H (bs++[b]) (xs++[x])
 | [],[],_=>⟨hb,trivial⟩
 |_::_,_::_,h=>⟨h.1,bZ.snoc hb h.2⟩
 | [],_::_,h=>h.elim
 |_::_,[],h=>h.elim
theorem bZ.get:∀{bs:NC} {xs:List Wn} {i:Nat} {b:Addr},bZ H bs xs->bs[i]?=some b->∃x,xs[i]?=some x/\H b=some (.tup (x.map V.int))
 | [],_,_,_,_,e=>by simp at e
 |c::bs,x::xs,0,b,h,e=>by simp at e;subst e;exact⟨x,rfl,h.1⟩
 |c::bs,x::xs,i+1,b,h,e=>by
  obtain⟨y,h1,h2⟩:=bZ.get (i:=i) h.2 (by simpa using e);exact⟨y,by simpa using h1,h2⟩
 |_::_,[],_,_,h,_=>h.elim
theorem bZ.length:∀{bs:NC} {xs:List Wn},bZ H bs xs->bs.length=xs.length
 | [],[],_=>rfl
 |_::_,_::_,h=>by simp[bZ.length h.2]
 | [],_::_,h=>h.elim
 |_::_,[],h=>h.elim
inductive jO(vs:List V)(H:Hp)(Q:VK)(_E:XK):Prop
 |mk (r c:Nat) (_:vs=[.int (r:Int),.int (c:Int)]) (_:r<=8) (_:c<=8) (_:∀(l:Addr) (bs:NC) (H':Hp),H l=none->H' l=some (.lst (bs.map V.ref))->bZ H' bs (dJ r c)->ax H H'->Q (.ref l) H')
theorem qP:az ["rows","columns","windows","top","left","bottom","right"] ["rows","columns"] (am ig):=by walk_at "c"
structure gB(H H':Hp)(l:Addr)(xs:List Wn)(n:Nat):Prop where
 ex:∃bs:List Addr,H' l=some (.lst (bs.map V.ref))/\bZ H' bs xs/\bs.length<=n
 sm:ax H H'
theorem gB.more{m:Nat}(h:gB H H' l xs n)(hm:n<=m):gB H H' l xs m:=
 ⟨let ⟨bs,h1,h2,h3⟩:=h.ex;⟨bs,h1,h2,M9 h3 hm⟩,h.sm⟩
theorem gB.snoc{H H':Hp}{x:Wn}{n:Nat}{bs:NC}(hl:H l=none)(h1:H' l=some (.lst (bs.map V.ref)))(h2:bZ H' bs xs)(h3:bs.length<=n)(sm:ax H H')(hp:H' p=none) :
  gB H (aD (aD H' p (.tup (x.map V.int))) l (.lst (bs.map V.ref++[V.ref p]))) l (xs++[x]) (n+1):=by
 have d:p≠l:=λe=>by rw[e,h1]at hp;cases hp
 refine⟨⟨bs++[p],?_,?_,by rw[MX,q0Y];omega⟩,cM (cM sm (sm.free hp)) hl⟩
 ·rw[ae,MN];rfl
 ·refine bZ.snoc (by rw[aq d,ae]) ?_
  -- no tuple is the list
  have i:∀{b:NC} {a:List Wn},bZ H' b a->bZ (aD (aD H' p (.tup (x.map V.int))) l (.lst (bs.map V.ref++[V.ref p]))) b a:=by
   intro b
   induction b with
   |nil=>intro a h;cases a with
    |nil=>trivial
    |cons _ _=>exact h.elim
   |cons c b ih=>
    intro a h;cases a with
    |nil=>exact h.elim
    |cons y a=>
     have g:c≠l:=rB h.1 h1 (by intro z;cases z);exact⟨by rw[aq g,aq (aA h.1 hp)];exact h.1,ih h.2⟩
  exact i h2
theorem rf{f:Addr}(F:c8 K "windows_of" "windows_of" ig f fd)(nb:NB mg):↑aV 1 f fd ["rows","columns"] jO:=by
 have sc:=qP;walk_at "f"
 ·obtain⟨r,c,rfl,hr1,hc1,q⟩:=h
  refine⟨_,(ad (q01 2 sc.nd (bh ac))
   (ad (aX PassesOwn.never rfl (bP rfl nb.range (aa (ak 0) ac)) (q02 3 sc.nd)
   (ai (aX PassesOwn.never rfl (bP rfl nb.range (aa (ak 1) ac)) (q02 4 sc.nd)
   (ai (aX PassesOwn.never rfl (jd rfl nb.range (aa (aF (bC.m0 bY) (ak 3) aj) (aa (aF (bC.m0 bY) (ak 0) aj) ac))) (q02 5 sc.nd)
   (ai (aX PassesOwn.never rfl (jd rfl nb.range (aa (aF (bC.m0 bY) (ak 4) aj) (aa (aF (bC.m0 bY) (ak 1) aj) ac))) (q02 6 sc.nd)
   (ai (ba (dU PySem.F.plainAttrs_list PySem.F.slot_list_append PySem.F.type_list_append cg (ak 2) (aa (bH (aa (ak 3) (aa (ak 4) (aa (ak 5) (aa (ak 6) ac))))) ac)))))))))))
   (ai (aG (ak 2))))),?_⟩
  ext;refine⟨ar ⋯,λl y=>⟨⋯,⋯,?_⟩⟩;rw[MJ];refine bK (lo:=0) (n:=r) (λt σ H1=>t<=r/\gB H H1 l (W1 r c t) (t*1000)/\∃j g d b,σ=[some (V.int r),some (V.int c),some (V.ref l),j,g,d,b])
   ⟨MZ _,⟨⟨[],ae,trivial,MZ _⟩,af y⟩,_,_,_,_,rfl⟩ ?_ ?_
  ·rintro t σ H1 I ⟨_,G,j,g,d,b,rfl⟩
   ext;refine⟨⋯,⋯,?_⟩;rw[MJ];refine bK (lo:=0) (n:=c) (λa σ H2=>a<=c/\gB H H2 l (W1 r c t++W2 r c t a) (t*1000+a*100)/\∃g d b,σ=[some (V.int r),some (V.int c),some (V.ref l),some (V.int t),g,d,b])
    ⟨MZ _,by show gB H H1 l (W1 r c t++[]) _;rw[Na];exact G.more ⋯,_,_,_,rfl⟩ ?_ ?_
   ·rintro a σ H2 x ⟨_,u,g,d,b,rfl⟩
    ext;refine⟨⋯,⋯,⋯,⋯,?_⟩;rw[show((r:Int)+1-((t:Int)+1)).toNat=r-t by omega];refine bK (lo:=(t:Int)+1) (n:=r-t) (λbt σ i=>bt<=r-t/\gB H i l (W1 r c t++W2 r c t a++W3 c t a bt) (t*1000+a*100+bt*10)/\∃d b,σ=[some (V.int r),some (V.int c),some (V.ref l),some (V.int t),some (V.int a),d,b])
     ⟨MZ _,by show gB H H2 l (W1 r c t++W2 r c t a++[]) _;rw[Na];exact u.more ⋯,_,_,rfl⟩ ?_ ?_
    ·rintro bt σ i z ⟨_,o,d,b,rfl⟩
     ext;refine⟨⋯,⋯,⋯,⋯,?_⟩;rw[show((c:Int)+1-((a:Int)+1)).toNat=c-a by omega];refine bK (lo:=(a:Int)+1) (n:=c-a) (λk σ B=>k<=c-a/\gB H B l (W1 r c t++W2 r c t a++W3 c t a bt++W4 t a (t+1+bt) k) (t*1000+a*100+bt*10+k)/\∃b,σ=[some (V.int r),some (V.int c),some (V.ref l),some (V.int t),some (V.int a),some (V.int ((t:Int)+1+bt)),b])
      ⟨MZ _,by show gB H i l (W1 r c t++W2 r c t a++W3 c t a bt++[]) _;rw[Na];exact o.more ⋯,_,rfl⟩ ?_ ?_
     ·rintro k σ B J ⟨_,m,b,rfl⟩
      obtain⟨⟨bs,h1,h2,D⟩,v⟩:=m;ext;refine⟨.inl ⟨rfl,_,aI.of h1⟩,ar ⋯,λp C=>⟨_,by rw[aq (aA h1 C)];exact h1,?_,J,?_⟩⟩
      ·rw[My];exact aY ⋯
      ·rw[Ek,<- Nb]
       have e:[V.int (t:Int),V.int (a:Int),V.int ((t:Int)+1+(bt:Int)),V.int ((a:Int)+1+(k:Int))]=(wn t a (t+1+bt) (a+1+k)).map V.int:=by unfold wn;simp
       rw[e];exact gB.snoc y h1 h2 D v C
     ·rintro σ B ⟨_,m,b,rfl⟩
      refine⟨z,?_,_,_,rfl⟩;rw[D9,<- Nb];exact m.more ⋯
    ·rintro σ i ⟨_,o,d,b,rfl⟩
     refine⟨x,?_,_,_,_,rfl⟩;rw[Fk,<- Nb];exact o.more ⋯
   ·rintro σ H2 ⟨_,u,g,d,b,rfl⟩
    refine⟨I,?_,_,_,_,_,rfl⟩;rw[Fb];exact u.more ⋯
  ·rintro σ H1 ⟨_,⟨⟨bs,h1,h2,D⟩,v⟩,j,g,d,b,rfl⟩
   ext;exact q l bs H1 y h1 h2 v
abbrev lQ:Stmt:=eU 12
inductive BY(K:W.Frag)(vs:List V)(H:Hp)(Q:VK)(_E:XK):Prop
 |mk (a tp:Addr) (p:aB) (r c t l b x:Nat) (_:vs=[.ref a,.ref tp]) (_:aI K H a (av p)) (_:cy K H tp ((wn t l b x).map V.int)) (_:rect p r c) (_:r<=64) (_:c<=64) (_:t<b) (_:b<=r) (_:l<x) (_:x<=c) (_:fC H (cut p t l b x) Q)
theorem xq:az ["picture","window","top","left","bottom","right"] ["picture","window"] (am lQ):=by walk_at "c"
theorem CP{row:Ny}{l x:Nat}(h1:l<=x)(h2:x<=row.length):Txt.slice (tx row) (some (l:Int)) (some (x:Int))=tx ((row.drop l).take (x-l)):=by
 rw[mG,HT.sIx_nat,HT.sIx_nat,Nr (show l<=row.length by omega),Nr h2]
theorem Cr{p:aB}{t b:Nat}(h1:t<=b)(h2:b<=p.length):jW (av p) (some (t:Int)) (some (b:Int))=av ((p.drop t).take (b-t)):=by
 unfold jW;rw[HT.sIx_nat,HT.sIx_nat,ao,Nr (show t<=p.length by omega),Nr h2];unfold av;rw[List.map_take,List.map_drop]
theorem xA{f:Addr}(F:c8 K "cut_out" "cut_out" lQ f fd)(nb:NB mg):↑aV 1 f fd ["picture","window"] (BY K):=by
 have sc:=xq;walk_at "f"
 ·obtain⟨a,tp,p,r,c,t,l,b,x,rfl,M,o,I,hr1,hc1,h1,h2,h3,h4,q⟩:=h
  refine⟨_,(ad (q01 2 sc.nd (aN aQ (ak 1) aj (λ_ _=>rfl)))
   (ad (aE (i:=3) sc.nd rfl (Or.inr rfl) (aN aQ (ak 1) aj (λ_ _=>rfl)))
   (ad (q01 4 sc.nd (aN aQ (ak 1) aj (λ_ _=>rfl)))
   (ad (aE (i:=5) sc.nd rfl (Or.inr rfl) (aN aQ (ak 1) aj (λ_ _=>rfl)))
   (ai (aG (bW ["row"] [3,5] rfl (bv.of (by kernel_rfl)) (by kernel_rfl) (aR (dh oh (ak 0) (cz (ak 2)) (cz (ak 4))))
    (λ_ _ _ _=>(au (i:=0) (by show(["row","left","right"]:List Str).Nodup;decide +kernel) rfl (Or.inl rfl))) (λ_ _ _ _=>bQ) (λ_ _ _ _=>(dh pF (ak 0) (cz (ak 1)) (cz (ak 2))))))))))),?_⟩
  ext;refine⟨_,o,V.int t,bJ (j:=0) rfl,_,o,V.int l,bJ (j:=1) rfl,_,o,V.int b,bJ (j:=2) rfl,_,o,V.int x,bJ (j:=3) rfl,_,rfl,_,rfl,_,M,λD z=>⟨⟨_,aI.of ae⟩,?_⟩⟩;rw[Cr ⋯ (by rw[I.1];omega)];have G:∀row∈(p.drop t).take (b-t),row.length=c:=λrow e=>I.2 row (q0I (q0H e));have k:((p.drop t).take (b-t)).length<=64:=by rw[Nf];omega
  generalize B:(p.drop t).take (b-t)=q0 at G k ⊢;have C:ax H (aD H D (HO.lst (av q0))):=af z;refine dI (xs:=av q0) (λi d σ g=>g=aD H D (HO.lst (av q0))/\d=av ((q0.take i).map λrow=>(row.drop l).take (x-l))/\i<=q0.length/\∃y,σ=[y,some (V.int l),some (V.int x)]) ⟨rfl,rfl,MZ _,_,rfl⟩ ?_ ?_ ?_ ?_ ?_
  ·rintro i d σ g ⟨_,rfl,L,_⟩
   rw[ao,My,Nf];exact aY ⋯
  ·rintro i d σ g ⟨_,_,h,_⟩
   rw[ao];exact h
  ·rintro i d σ g ⟨rfl,_⟩
   exact aI.of ae
  ·rintro i v d σ g u ⟨rfl,rfl,L,y,rfl⟩
   have n:i<q0.length:=by have:=(Mw.mp u).1;rwa [ao]at this
   rw[br n]at u;cases u;have e:=G _ (MG n);ext;refine⟨by rw[aw];exact ar ⋯,?_,n⟩;rw[CP ⋯ ⋯,q0E,Mv n,MN];exact(cV _ _).symm
  ·rintro d σ g ⟨rfl,rfl,_⟩ J m
   rw[ao,Nd];refine q J _ (C.free m) ?_ (C.trans (af m));rw[ae];unfold cut;rw[B]
abbrev dL:Stmt:=eU 25
def zI(ss:NG):Prop:=ss≠[]/\(ss.headD ⟨#[]⟩).length<=64
inductive dC(K:W.Frag)(vs:List V)(H:Hp)(Q:VK)(_E:XK):Prop
 |mk (a:Addr) (ss:NG) (_:vs=[.ref a]) (_:aI K H a (ss.map V.str)) (_:zI ss) (_:∀t,H t=none->Q (.ref t) (aD H t (.tup [.int (gi ss),.ref a])))
theorem j9:az ["picture"] ["picture"] (am dL):=by walk_at "c"
theorem dG(K:W.Frag):∀l ss H Q E,aI K H l (ss.map V.str)->zI ss->(∀t,H t=none->Q (.ref t) (aD H t (.tup [.int (gi ss),.ref l])))->dC K [.ref l] H Q E:=λl ss H Q E h1 h2 h3=>⟨l,ss,rfl,h1,h2,h3⟩
theorem j4{f:Addr}(F:c8 K "cells_then_rows" "cells_then_rows" dL f fd)(nb:NB mg):↑aV 1 f fd ["picture"] (dC K):=by
 have sc:=j9;walk_at "f"
 ·obtain⟨a,c,rfl,b,e,q⟩:=h
  refine⟨_,(ai (aG (bH (aa (aF (bC.m1 dz) (aC bo rfl nb.len bi (aa (ak 0) ac)) (aC aS rfl nb.len bi (aa (aN bF (ak 0) aj (λ_ _=>rfl)) ac))) (aa (ak 0) ac))))),?_⟩;ext;obtain⟨g,h1⟩:=e;obtain⟨z,c,rfl⟩:=List.exists_cons_of_ne_nil g;have h2:z.length<=64:=h1;have h3:((z.length:Nat):Int)<=64:=by omega
  refine⟨_,b,_,b,_,bJ (j:=0) rfl,z,rfl,ar ⋯,.inr ⟨⋯,⋯⟩,ar ⋯,λp d=>?_⟩;have:=q p d;unfold gi at this;rw[My];exact this
abbrev ma:Stmt:=eU 24
inductive pN(K:W.Frag)(vs:List V)(H:Hp)(Q:VK)(_E:XK):Prop
 |mk (a:Addr) (p:aB) (r c:Nat) (_:vs=[.ref a]) (_:aI K H a (av p)) (_:rect p r c) (_:0<r) (_:0<c) (_:r<=6) (_:c<=6) (_:bL p) (_:Gu p r c) (_:∀(H':Hp) (l:Addr) (zs:List AP),ax H H'->H l=none->H' l=some (.lst (zs.map λz=>V.ref z.1))->(∀z∈zs,H z.1=none/\H' z.1=some (.lst (av z.2)))->(zs.map (·.1)).Nodup->GL p r c (zs.map (·.2))->zs.length<=8000->Q (.ref l) H')
theorem bZ.dict{H:Hp}(hd:H d=some (.dK kvs)):∀{bs:NC} {xs:List Wn},bZ H bs xs->bZ (aD H d o) bs xs
 | [],[],_=>trivial
 |_::_,_::_,h=>⟨by rw[aq (rB h.1 hd (by intro e;cases e))];exact h.1,bZ.dict hd h.2⟩
 | [],_::_,h=>h.elim
 |_::_,[],h=>h.elim
theorem yt:az ["picture","found","window","part","t","seen"] ["picture"] (am ma):=by walk_at "c"
theorem yF{f:Addr}(F:c8 K "seen_in" "seen_in" ma f fd)(nb:NB mg){tkT:Tok}(yao:mg "TURNINGS"=some (.int 8 tkT))(yaV:↑df 1 "windows_of" ["rows","columns"] jO)(yaK:↑df 1 "cut_out" ["picture","window"] (BY K))(zka:↑df 3 "turned" ["picture","t"] (jf K))(yab:↑df 1 "shown" ["picture"] (dR K))(yaZ:↑df 1 "cells_then_rows" ["picture"] (dC K)):↑aV 4 f fd ["picture"] (pN K):=by
 have sc:=yt;have dG:=dG K;walk_at "f"
 ·obtain⟨a,p,r,c,rfl,hS,hp,a9,d4,c5,d3,c6,b3,q⟩:=h
  have hu:=hr.units;refine⟨_,(ad (q01 1 sc.nd pR)
   (ad (aX PassesOwn.never rfl (aR (aH yaV (hr.mono nofun) rfl aM (aa (aC bo rfl nb.len bi (aa (ak 0) ac)) (aa (aC aS rfl nb.len bi (aa (aN bF (ak 0) aj (λ_ _=>rfl)) ac)) ac)))) (q02 2 sc.nd)
   (ad (q01 3 sc.nd (aH yaK (hr.mono nofun) rfl aM (aa (ak 0) (aa (ak 2) ac))))
   (ai (aX PassesOwn.never rfl (bP rfl nb.range (aa (cH (v:=.int 8) rfl yao ⟨_,rfl⟩) ac)) (q02 4 sc.nd)
   (ad (q01 5 sc.nd (aH zka (hr.mono nofun) rfl aM (aa (ak 3) (aa (ak 4) ac))))
   (ai (tJ (Nh (Nl (by decide:1<=64) _) hu) (ak 1) (aH yab (hr.mono nofun) rfl aM (aa (ak 5) ac)) (ak 5) rfl)))))))
   (ai (aG (AK (hr.mono nofun) rfl rfl nb.sorted yaZ rfl dG (aa (Cz (ak 1) rfl rfl) ac)))))),?_⟩
  ext;intro d hd;have a0:ax H (aD H d (HO.dK [])):=af hd;obtain⟨c9,M⟩:=i_ hp a9;refine⟨_,a0.seq hS,_,a0.seq hS,_,bJ (j:=0) (br c9),_,rfl,by rw[aw,M];exact ar ⋯,?_⟩;rw[ao,hp.1,aw,M];refine⟨r,c,rfl,⋯,⋯,λwl bs H1 hwl L a8 a4=>?_⟩;have a1:=Fs a9 c5 d4 d3;have hlen:(dJ r c).length<=1000:=by unfold check at a1;simp only[q0O,q0a]at a1;exact a1.2
  have b8:=a8.length;have a5:=a0.trans a4;refine⟨_,rfl,⟨_,aI.of L⟩,?_⟩
  -- the windows
  refine bz (xs:=bs.map V.ref) (λi σ H2=>i<=bs.length/\(∃I,fu H H2 d (λx=>∃j,j<i/\∃u,u<8/\x=turned (AW p ((dJ r c).getD j [])) u) I (8*i))/\H2 wl=some (.lst (bs.map V.ref))/\bZ H2 bs (dJ r c)/\∃x2 x3 U T,σ=[some (V.ref a),some (V.ref d),x2,x3,U,T]) ?_ ?_ ?_ ?_
  ·refine⟨MZ _,⟨[],?_⟩,L,a8,_,_,_,_,rfl⟩
   exact⟨by rw[a4 _ _ ae];rfl,a5,hd,(λz hz=>nomatch hz),List.nodup_nil,List.nodup_nil,λx=>by simp,MZ _⟩
  ·rintro i σ H2 _ ⟨_,_,h,_⟩
   exact aI.of h
  ·rintro i x σ H2 hx ⟨_,⟨I,S⟩,a2,C,x2,x3,U,T,rfl⟩
   rw[MA]at hx;cases G:bs[i]? with
   |none=>rw[G]at hx;cases hx
   |some bt=>
    rw[G]at hx;cases hx
    have hi:i<bs.length:=(Mw.mp G).1;obtain⟨w0,a7,b5⟩:=C.get G;obtain⟨t,l,b,x,rfl,h1,h2,h3,h4⟩:=kE.mp (MB a7);ext;refine⟨a,bt,p,r,c,t,l,b,x,rfl,S.sm.seq hS,cy.of b5,hp,⋯,⋯,h1,h2,h3,h4,λpl H3 b1 b0 Z=>⟨⋯,?_⟩⟩;have b4:=cF hp h1 h2 h3 h4;have S3:=S.same Z;have c0:=Z _ _ a2;have c3:=C.same Z;have hpl0:=S.sm.free b1;clear S b1 a2 C b5;have eW:(dJ r c).getD i []=wn t l b x:=by rw[q0A,a7];rfl
    have e8:Int.toNat 8=8:=rfl;rw[e8];refine bK (lo:=0) (n:=8) (λu σ H4=>(∃I,fu H H4 d (λy=>(∃j,j<i/\∃u,u<8/\y=turned (AW p ((dJ r c).getD j [])) u)\/∃k,k<u/\y=turned (cut p t l b x) k) I (8*i+u))/\H4 pl=some (.lst (av (cut p t l b x)))/\H4 wl=some (.lst (bs.map V.ref))/\bZ H4 bs (dJ r c)/\∃U T,σ=[some (V.ref a),some (V.ref d),some (V.ref bt),some (V.ref pl),U,T]) ?_ ?_ ?_
    ·exact⟨⟨I,S3.congr λy=>⟨.inl,λz=>z.elim id λ⟨k,c2,_⟩=>q0Q c2 (Nat.not_lt_zero _)⟩⟩,b0,c0,c3,_,_,rfl⟩
    ·rintro u σ H4 c1 ⟨⟨o,R⟩,D,B,a3,U,T,rfl⟩
     ext;refine⟨pl,cut p t l b x,b-t,x-l,u,by simp,aI.of D,b4,⋯,⋯,⋯,⋯,c1,λbq H5 d5 O m=>?_⟩;obtain⟨o1,o2,r',c',o3,o4,o5,o6,o7⟩:=zQ (u:=u) hp c6 h1 h2 h3 h4;have c4:eG (turned (cut p t l b x) u):=eG.of o3 ⋯ ⋯;have d2:((turned (cut p t l b x) u).headD []).length<=64:=by rw[aW o3 o4];omega
     obtain⟨e1,S5⟩:=R.step m d5 O o1 o2 d2;refine⟨bq,turned (cut p t l b x) u,rfl,O,c4,aD H5 d (.dK ((lK o (bq,turned (cut p t l b x) u)).map jH)),.inl ⟨o.map jH,_,m _ _ R.tbl,rfl,by rw[My];exact aY (by have:=R.len;omega),by rw[e1]⟩,⟨_,S5.congr λy=>?_⟩,?_,?_,(a3.same m).dict (m _ _ R.tbl)⟩
     ·constructor
      ·rintro((z | ⟨k,J,g⟩) | z)
       ·exact .inl z
       ·exact .inr ⟨k,⋯,g⟩
       ·exact .inr ⟨u,⋯,z⟩
      ·rintro(z | ⟨k,J,g⟩)
       ·exact .inl (.inl z)
       ·by_cases hq:k=u
        ·exact .inr (by rw[g,hq])
        ·exact .inl (.inr ⟨k,⋯,g⟩)
     ·rw[aq (rB D R.tbl (by intro e;cases e))];exact m _ _ D
     ·rw[aq (rB B R.tbl (by intro e;cases e))];exact m _ _ B
    ·rintro σ H4 ⟨⟨o,R⟩,D,B,a3,U,T,rfl⟩
     refine⟨hi,⟨o,R.congr λy=>?_⟩,B,a3,_,_,_,_,rfl⟩
     constructor
     ·rintro(⟨j,J,g⟩ | ⟨k,J,g⟩)
      ·exact⟨j,⋯,g⟩
      ·exact⟨i,⋯,k,J,by rw[eW,kK];exact g⟩
     ·rintro⟨j,J,k,g,z3⟩
      by_cases hq:j=i
      ·rw[hq,eW,kK]at z3
       exact .inr ⟨k,g,z3⟩
      ·exact .inl ⟨j,⋯,k,g,z3⟩
  ·rintro σ H2 ⟨_,⟨I,S⟩,a2,C,x2,x3,U,T,rfl⟩
   ext;refine⟨_,S.tbl,λv hv=>⟨d,ae,I.map F9,?_,?_,?_,?_⟩⟩
   ·rw[aq (aA S.tbl hv),S.tbl,MP];rfl
   ·have:=b3 (I.map (·.2)) S.ndp λx hx=>by
     have h:=(S.mem x).mp hx;rw[My,b8]at h;exact md.mpr h
    rwa [My]at this ⊢
   ·intro e he
    obtain⟨z,hz,rfl⟩:=Nj.mp he;obtain⟨J,g,z3,z4,z5⟩:=S.each z hz;refine⟨?_,?_,?_⟩
    ·refine aI.of ?_
     show aD H2 v (vG v d) z.1=some (.lst ((z.2.map tx).map V.str));rw[aq (aA g hv),g,dY]
    ·show z.2.map tx≠[]
     exact λe=>z3 (List.map_eq_nil_iff.mp e)
    ·show((z.2.map tx).headD ⟨#[]⟩).length<=64
     rw[zb];exact z5
   ·intro es pe se H' l' a6 d1 b2
    obtain⟨ws,pw,rfl⟩:=vx pe _ rfl;have Y:ax H2 (aD H2 v (vG v d)):=af hv;refine q H' l' ws (S.sm.trans (Y.trans a6)) (S.sm.free (Y.free d1)) ?_ ?_ ?_ ?_ (by have h1:=S.len;have h2:=pw.length_eq;rw[My]at h1;omega)
    ·rw[b2,MP];rfl
    ·intro z hz
     obtain⟨J,g,_⟩:=S.each z (pw.mem_iff.mp hz);exact⟨J,a6 _ _ (Y _ _ g)⟩
    ·exact(pw.map _).nodup_iff.mpr S.nda
    ·refine⟨λy=>?_,A0 se ((pw.map _).nodup_iff.mpr S.ndp)⟩
     rw[(pw.map _).mem_iff,S.mem,md,My,b8]
abbrev Ky:=List Nat×List Nat
def Gd(k:Ky):List V:=[.str (tx k.1),.str (tx k.2)]
def j_(k:Ky):List c_:=[.inr (tx k.1),.inr (tx k.2)]
theorem cT(h:tx a=tx b):a=b:=by
 have e:(tx a).cps.toList=(tx b).cps.toList:=by rw[h]
 rwa [cE,cE]at e
theorem vE(h:j_ a=j_ b):a=b:=by
 obtain⟨a1,a2⟩:=a;obtain⟨b1,b2⟩:=b;unfold j_ at h;simp only[List.cons.injEq,Sum.inr.injEq,and_true]at h;rw[cT h.1,cT h.2]
def bp(H:Hp)(a:Addr)(k:Ky):Prop:=H a=some (.tup (Gd k))
theorem bp.up(h:bp H a k)(s:ax H H'):bp H' a k:=s _ _ h
theorem bp.put(h:bp H a k)(hl:H l=some (.lst xs)):bp (aD H l o) a k:=by
 have b:H a=some (.tup (Gd k)):=h;show aD H l o a=_;rw[aq (λz=>by rw[z,hl]at b;cases b)];exact b
abbrev bc(p:aB):List Nat:=SpM.glue 47 p
theorem zB{β:Type}{A:Hp->Addr->β->Prop}(u:∀{H H':Hp} {b:Addr} {y:β},A H b y->ax H H'->A H' b y){H H':Hp}{l:Addr}{ys:List β}(h:k9 A H l ys)(s:ax H H'):k9 A H' l ys:=by
 obtain⟨bs,h1,h2⟩:=h;exact⟨bs,s _ _ h1,h2.mono λb y _ _ q=>u q s⟩
abbrev kL:Hp->Addr->List Ky->Prop:=k9 bp
theorem u9(h:kL H b y)(s:ax H H'):kL H' b y:=zB (A:=bp) bp.up h s
def bM(sb:Bool)(p:aB)(m:Nat):List Ky:=(List.range (m-1)).map λj=>(bc (rQ sb p (j+1)),bc (mh sb p (j+1)))
def eR(CC:Addr)(H:Hp)(c:Addr)(p:aB):Prop:=∃dx lp lb la,H c=some (.ins CC dx [("picture",.ref lp),("text",.str (tx (bc p))),("beside_texts",.ref lb),("above_texts",.ref la)])/\H lp=some (.lst (av p))/\k9 bp H lb (bM true p (p.headD []).length)/\k9 bp H la (bM false p p.length)
theorem eR.up(h:eR CC H c p)(s:ax H H'):eR CC H' c p:=by
 obtain⟨i,a,b,d,h1,h2,g,e⟩:=h;exact⟨i,a,b,d,s _ _ h1,s _ _ h2,zB (A:=bp) bp.up g s,zB (A:=bp) bp.up e s⟩
def bS(r:Nat×RV)(p:aB):List (List Ky):=match r.1 with
 |0=>if bc p=r.2.sg then[[]] else[]
 |1=>(bM true p (p.headD []).length).map λk=>[(k.1,r.2.o1),(k.2,r.2.o2)]
 |2=>(bM false p p.length).map λk=>[(k.1,r.2.o1),(k.2,r.2.o2)]
 |_=>[[(bc (turned p (cW r.2.t.toNat)),r.2.o1)]]
def b9(T:Ky->Option Int):Int->List Ky->Option Int
 |c,[]=>some c
 |c,k::ks=>match T k with
  |none=>none
  |some v=>b9 T (c+v) ks
def i8(H:Hp)(d:Addr)(T:Ky->Option Int):Prop:=∃kvs,H d=some (.dT kvs)/\∀k,dQ kvs (j_ k)=(T k).map V.int
theorem i8.up(h:i8 H d T)(s:ax H H'):i8 H' d T:=let ⟨kvs,h1,h2⟩:=h;⟨kvs,s _ _ h1,h2⟩
theorem i8.get(h:i8 H d T)(hb:bp H b k):kC H d (.ref b) ((T k).map V.int):=by
 obtain⟨kvs,h1,h2⟩:=h;rw[<- h2 k];exact kC.t h1 hb
structure fh(p:aB)(r c:Nat):Prop where
 rc:rect p r c
 r0:0<r
 r6:r<=6
 c0:0<c
 c6:c<=6
theorem fh.small(h:fh p r c):eG p:=eG.of h.rc (by have:=h.r6;omega) (by have:=h.c6;omega)
theorem sZ{ks:List Ky}{fs:List (Str×V)}(h:k9 bp H l ks)(ha:H a=some (.ins C dx fs)):k9 bp (aD H a o) l ks:=by
 obtain⟨bs,h1,h2⟩:=h;exact⟨bs,by rw[aq (λz=>by rw[z,ha]at h1;cases h1)];exact h1,h2.mono λb y _ _ q=>by
  have c:H b=some (.tup (Gd y)):=q;show aD H a o b=_;rw[aq (λz=>by rw[z,ha]at c;cases c)];exact c⟩
theorem fm{c:Prop}[Decidable c]{A B:Prop}(hA:c->A)(hB:¬ c->B):if c then A else B:=by
 by_cases h:c
 ·rw[q07 h];exact hA h
 ·rw[q06 h];exact hB h
abbrev fL:Stmt:=eU 28
inductive im(K:W.Frag)(vs:List V)(H:Hp)(Q:VK)(_E:XK):Prop
 |mk (sb:Bool) (a:Addr) (p:aB) (r c m:Nat) (_:vs=[.ref a,.bl sb,.int (m:Int)]) (_:aI K H a (av p)) (_:fh p r c) (_:m=(if sb=true then c else r)) (_:∀l H',H l=none->k9 bp H' l (bM sb p m)->ax H H'->Q (.ref l) H')
theorem nG:az ["picture","side_by_side","many","texts","at","two"] ["picture","side_by_side","many"] (am fL):=by walk_at "c"
theorem uA{sb:Bool}(h:fh p r c):eG (rQ sb p n)/\eG (mh sb p n):=by
 have:=h.small;cases sb with
 |true=>
  refine⟨⟨?_,λx a=>?_⟩,⟨?_,λx a=>?_⟩⟩
  ·show(p.map _).length<=_;rw[My];exact this.1
  ·obtain⟨y,b,rfl⟩:=Nj.mp a
   rw[Nf];exact M9 (Nat.min_le_right _ _) (this.2 y b)
  ·show(p.map _).length<=_;rw[My];exact this.1
  ·obtain⟨y,b,rfl⟩:=Nj.mp a
   rw[Ng];exact M9 (Nat.sub_le _ _) (this.2 y b)
 |false=>
  refine⟨⟨?_,λx a=>?_⟩,⟨?_,λx a=>?_⟩⟩
  ·show(p.take n).length<=_;rw[Nf];exact M9 (Nat.min_le_right _ _) this.1
  ·exact this.2 x (q0H a)
  ·show(p.drop n).length<=_;rw[Ng];exact M9 (Nat.sub_le _ _) this.1
  ·exact this.2 x (q0I a)
theorem ny{f:Addr}(F:c8 K "parted_texts" "parted_texts" fL f fd)(nb:NB mg)(yaX:↑df 1 "parted" ["picture","side_by_side","at"] (rX K))(yab:↑df 1 "shown" ["picture"] (dR K)):↑aV 2 f fd ["picture","side_by_side","many"] (im K):=by
 have sc:=nG;walk_at "f"
 ·obtain⟨sb,a,p,r,c,m,rfl,Z,e,S,q⟩:=h
  have:=e.r6;have:=e.c6;have:=e.r0;have:=e.c0;have m1:1<=m/\m<=6:=by rw[S];split<;>omega
  refine⟨_,(ad (q01 3 sc.nd (bh ac))
   (ad (aX PassesOwn.never rfl (jd rfl nb.range (ci (aa (ak 2) ac))) (q02 4 sc.nd)
   (ad (q01 5 sc.nd (aH yaX (hr.mono nofun) rfl aM (aa (ak 0) (aa (ak 1) (aa (ak 4) ac)))))
   (ai (ba (dU PySem.F.plainAttrs_list PySem.F.slot_list_append PySem.F.type_list_append cg (ak 3) (aa (bH (aa (aH yab (hr.mono nofun) rfl aM (aa (aN aQ (ak 5) aj (λ_ _=>rfl)) ac)) (aa (aH yab (hr.mono nofun) rfl aM (aa (aN aQ (ak 5) aj (λ_ _=>rfl)) ac)) ac))) ac))))))
   (ai (aG (ak 3))))),?_⟩
  symm;refine⟨MZ _,λl J=>h1 _ _ ?_⟩;clear h1;generalize v:aD H l _=H1;obtain⟨T,e1⟩:=i4 J v;symm;rw[show((m:Int)-1).toNat=m-1 by omega];refine⟨nofun,⋯,⋯,?_⟩;refine bK (lo:=1) (n:=m-1) (λi σ g=>ax H g/\i<=m-1/\(∃bs:List Addr,g l=some (.lst (bs.map V.ref))/\aL bp g bs ((List.range i).map λj=>(bc (rQ sb p (j+1)),bc (mh sb p (j+1)))))/\∃x y,σ=[some (V.ref a),some (V.bl sb),some (V.int (m:Int)),some (V.ref l),x,y]) ⟨T,MZ _,⟨[],e1,aL.nil⟩,_,_,rfl⟩ ?_ ?_
  ·rintro i σ g hi ⟨o,_,⟨bs,M,u⟩,x,y,rfl⟩
   symm;refine⟨sb,a,p,r,c,i+1,by push_cast;rw[Int.add_comm],o.seq Z,e.rc,⋯,⋯,by rw[<- S];omega,λt Y U H2 ht hl1 hl2 hne et R O G=>h1 _ _ ?_⟩;clear h1;obtain⟨C,B⟩:=uA (sb:=sb) (n:=i+1) e;ext;have k:=G _ _ M;refine⟨.inl ⟨rfl,_,aI.of k⟩,_,cy.of et,_,rfl,Y,rQ sb p (i+1),rfl,R,C,_,cy.of et,_,rfl,U,mh sb p (i+1),rfl,O,B,ar nofun,λz I=>?_⟩;generalize v:aD H2 z _=H3;obtain⟨D,(e3:bp H3 z (bc (rQ sb p (i+1)),bc (mh sb p (i+1))))⟩:=i4 I v;have d:=D _ _ k;have L:=u.1;rw[My,q0J]at L;refine⟨_,d,by rw[My];exact aY ⋯,cM ((o.trans G).trans D) J,⋯,bs++[z],by rw[ae,MN];rfl,?_⟩;rw[q0M,MN];exact(u.mono λb y _ _ h=>((h.up G).up D).put d).snoc (e3.put d)
  ·rintro σ g ⟨o,_,⟨bs,M,u⟩,x,y,rfl⟩
   refine h1 _ _ ?_;ext;exact q l g J ⟨bs,M,u⟩ o
abbrev ge:Stmt:=iJ 27 0
def FD(K:W.Frag)(C:Addr):Prop:=ay K C "picture"/\ay K C "text"/\ay K C "beside_texts"/\ay K C "above_texts"
inductive ik(K:W.Frag)(vs:List V)(H:Hp)(Q:VK)(_E:XK):Prop
 |mk (a C dx b:Addr) (p:aB) (r c:Nat) (_:vs=[.ref a,.ref b]) (_:H a=some (.ins C dx [])) (_:iF K C) (_:FD K C) (_:H b=some (.lst (av p))) (_:fh p r c) (_:∀H',eR C H' a p->a_ a H H'->Q .non H')
theorem uG:az ["self","picture"] ["self","picture"] (am ge):=by walk_at "c"
theorem um{f:Addr}(F:c8 K "__init__" "Cuts.__init__" ge f fd)(nb:NB mg)(yab:↑df 1 "shown" ["picture"] (dR K))(yav:↑df 2 "parted_texts" ["picture","side_by_side","many"] (im K)):↑aV 3 f fd ["self","picture"] (ik K):=by
 have sc:=uG;walk_at "f"
 ·obtain⟨a,C,d,b,p,r,c,rfl,R,G,⟨n1,n2,n3,n4⟩,n,i,q⟩:=h
  refine⟨_,(ad (cw (ak 0) (cq bR rfl nb.list c7 (aa (ak 1) ac)) rfl)
   (ad (cw (ak 0) (aH yab (hr.mono nofun) rfl aM (aa (ak 1) ac)) rfl)
   (ad (cw (ak 0) (aH yav (hr.mono nofun) rfl aM (aa (ak 1) (aa fO (aa (aC aS rfl nb.len bi (aa (aN bF (ak 1) aj (λ_ _=>rfl)) ac)) ac)))) rfl)
   (ai (cw (ak 0) (aH yav (hr.mono nofun) rfl aM (aa (ak 1) (aa fO (aa (aC bo rfl nb.len bi (aa (ak 1) ac)) ac)))) rfl))))),?_⟩
  symm;refine⟨_,.inl (aI.of n),λl z=>⟨C,d,_,af z _ _ R,G,n1,nofun,h1 _ _ ?_⟩⟩;clear h1;have j:l≠a:=λe=>by rw[e,R]at z;cases z
  have k:b≠a:=λe=>by rw[e,R]at n;cases n
  have L:a_ a H (aD (aD H l (.lst (av p))) a (.ins C d [("picture",.ref l)])):=(a_.of (af z)).put;have e1:aD (aD H l (.lst (av p))) a (.ins C d [("picture",.ref l)]) a=some (.ins C d [("picture",.ref l)]):=ae;have l1:aD (aD H l (.lst (av p))) a (.ins C d [("picture",.ref l)]) l=some (.lst (av p)):=by rw[aq j,ae]
  change AY _ _ _ _ (aD (aD H l (.lst (av p))) a (.ins C d [("picture",.ref l)]));generalize aD (aD H l (.lst (av p))) a (.ins C d [("picture",.ref l)])=H1 at L e1 l1 ⊢;have b1:=L _ _ k n;have d1:¬ (("picture":Str)="text"):=by decide +kernel
  have d2:¬ (("picture":Str)="beside_texts"):=by decide +kernel
  have d3:¬ (("picture":Str)="above_texts"):=by decide +kernel
  have d4:¬ (("text":Str)="beside_texts"):=by decide +kernel
  have d5:¬ (("text":Str)="above_texts"):=by decide +kernel
  have d6:¬ (("beside_texts":Str)="above_texts"):=by decide +kernel
  have U:cG "text" (V.str (tx (bc p))) [(("picture":Str),V.ref l)]=[(("picture":Str),V.ref l),(("text":Str),V.str (tx (bc p)))]:=by simp only[cG,q06 d1]
  symm;refine⟨b,p,rfl,b1,i.small,C,d,_,e1,G,n2,by simp,?_⟩;rw[U];refine h1 _ _ ?_;clear h1;have J:a_ a H (aD H1 a (.ins C d [("picture",.ref l),("text",.str (tx (bc p)))])):=L.put;have D:aD H1 a (.ins C d [("picture",.ref l),("text",.str (tx (bc p)))]) a=some (.ins C d [("picture",.ref l),("text",.str (tx (bc p)))]):=ae;have Z:aD H1 a (.ins C d [("picture",.ref l),("text",.str (tx (bc p)))]) l=some (.lst (av p)):=by rw[aq j];exact l1
  generalize aD H1 a (.ins C d [("picture",.ref l),("text",.str (tx (bc p)))])=H2 at J D Z ⊢;have b2:=J _ _ k n;have:=i.r6;have:=i.c6;obtain⟨O,o⟩:=i_ i.rc i.r0;symm;refine⟨_,aI.of b2,_,(show je _ ((0:Nat):Int)=_ from bJ (br O)),_,rfl,by rw[aw];exact ar ⋯,?_⟩;rw[aw,o];refine⟨true,b,p,r,c,c,rfl,aI.of b2,i,rfl,λg x u eb y=>⟨C,d,_,y _ _ D,G,n3,by simp,?_⟩⟩;have hbl:g≠a:=λe=>by rw[e,D]at u;cases u
  have T:cG "beside_texts" (V.ref g) [(("picture":Str),V.ref l),(("text":Str),V.str (tx (bc p)))]=[(("picture":Str),V.ref l),(("text":Str),V.str (tx (bc p))),(("beside_texts":Str),V.ref g)]:=by simp only[cG,q06 d2,q06 d4]
  rw[T];refine h1 _ _ ?_;clear h1;have I:a_ a H (aD x a (.ins C d [("picture",.ref l),("text",.str (tx (bc p))),("beside_texts",.ref g)])):=(J.then y).put;have B:aD x a (.ins C d [("picture",.ref l),("text",.str (tx (bc p))),("beside_texts",.ref g)]) a=some (.ins C d [("picture",.ref l),("text",.str (tx (bc p))),("beside_texts",.ref g)]):=ae;have Y:aD x a (.ins C d [("picture",.ref l),("text",.str (tx (bc p))),("beside_texts",.ref g)]) l=some (.lst (av p)):=by rw[aq j];exact y _ _ Z
  have v:k9 bp (aD x a (.ins C d [("picture",.ref l),("text",.str (tx (bc p))),("beside_texts",.ref g)])) g (bM true p c):=sZ eb (y _ _ D);generalize aD x a (.ins C d [("picture",.ref l),("text",.str (tx (bc p))),("beside_texts",.ref g)])=H4 at I B Y v ⊢;have b3:=I _ _ k n;ext;refine⟨_,aI.of b3,?_⟩;rw[ao,i.rc.1];refine⟨false,b,p,r,c,r,rfl,aI.of b3,i,rfl,λM H5 hla5 ea m=>⟨C,d,_,m _ _ B,G,n4,by simp,?_⟩⟩;have S:cG "above_texts" (V.ref M) [(("picture":Str),V.ref l),(("text":Str),V.str (tx (bc p))),(("beside_texts":Str),V.ref g)]=[(("picture":Str),V.ref l),(("text":Str),V.str (tx (bc p))),(("beside_texts":Str),V.ref g),(("above_texts":Str),V.ref M)]:=by simp only[cG,q06 d3,q06 d5,q06 d6]
  rw[S];refine q _ ⟨d,l,g,M,ae,by rw[aq j];exact m _ _ Y,?_,?_⟩ ((I.then m).put)
  ·rw[aW i.rc i.r0]
   exact sZ (zB (A:=bp) bp.up v m) (m _ _ B)
  ·rw[i.rc.1]
   exact sZ ea (m _ _ B)
abbrev eF:Stmt:=iJ 27 1
inductive fB(CC:Addr)(vs:List V)(H:Hp)(Q:VK)(_E:XK):Prop
 |mk (a:Addr) (p:aB) (r c t:Nat) (_:vs=[.ref a,.int (t:Int)]) (_:eR CC H a p) (_:fh p r c) (_:t<8) (_:∀H',ax H H'->Q (.str (tx (bc (turned p t)))) H')
theorem pP:az ["self","t"] ["self","t"] (am eF):=by walk_at "c"
theorem fh.turned(h:fh p r c)(t:Nat):∃r' c',fh (turned p t) r' c':=by
 have:=cP h.rc h.r0 h.c0 t;have h1:=h.r0;have h2:=h.c0;have h3:=h.r6;have h4:=h.c6;exact⟨_,_,this,by split<;>omega,by split<;>omega,by split<;>omega,by split<;>omega⟩
theorem oW{f:Addr}(F:c8 K "turned_text" "Cuts.turned_text" eF f fd)(nb:NB mg)(cl:iF K CC)(na:FD K CC)(zka:↑df 3 "turned" ["picture","t"] (jf K))(yab:↑df 1 "shown" ["picture"] (dR K)):↑aV 4 f fd ["self","t"] (fB CC):=by
 have sc:=pP;walk_at "f"
 ·obtain⟨a,p,r,c,t,rfl,⟨n,g,lb,la,k,j,_,_⟩,b,i,q⟩:=h
  refine⟨_,(ai (aG (aH yab (hr.mono nofun) rfl aM (aa (aH zka (hr.mono nofun) rfl aM (aa (bE (ak 0) rfl) (aa (ak 1) ac))) ac)))),?_⟩;have:=b.r6;have:=b.c6;obtain⟨r',c',d⟩:=b.turned t;ext;refine⟨CC,n,_,k,cl,na.1,_,rfl,g,p,r,c,t,rfl,aI.of j,b.rc,b.r0,b.c0,⋯,⋯,i,λl H1 hl m e=>⟨l,turned p t,rfl,m,d.small,q H1 e⟩⟩
def qb(H0 H:Hp)(b:Addr)(y:List Ky):Prop:=H0 b=none/\kL H b y
theorem qb.up{H0:Hp}(h:qb H0 H b y)(s:ax H H'):qb H0 H' b y:=⟨h.1,u9 h.2 s⟩
inductive dB(CC C:Addr)(t:Nat)(vs:List V)(H:Hp)(Q:VK)(_E:XK):Prop
 |mk (a dx lp cu:Addr) (v:RV) (p:aB) (r c:Nat) (_:vs=[.ref a,.ref cu]) (_:H a=some (.ins C dx (wF t lp v))) (_:eR CC H cu p) (_:fh p r c) (_:0<=v.t) (_:v.t<=7) (_:∀l H',H l=none->k9 (qb H) H' l (bS (t,v) p)->ax H H'->Q (.ref l) H')
abbrev fU:Stmt:=iJ 38 4
theorem uP:az ["self","cuts"] ["self","cuts"] (am fU):=by walk_at "c"
theorem uD{f:Addr}(F:c8 K "ways" "CellRule.ways" fU f fd)(cc:iF K CC)(nc:FD K CC)(cl:iF K C)(na:ay K C "sign"):↑aV 1 f fd ["self","cuts"] (dB CC C 0):=by
 have sc:=uP;walk_at "f"
 ·obtain⟨a,k,lp,cu,v,p,r,c,rfl,j,⟨l,b,l2,l3,i,_,_,_⟩,hp,t0,t7,q⟩:=h
  refine⟨_,(ai (aG (DT (aK gI (bE (ak 1) rfl) (bE (ak 0) rfl) (aZ _)) (bh (aa (bh ac) ac)) (bh ac)))),?_⟩;ext;refine⟨CC,l,_,i,cc,nc.2.1,_,rfl,C,k,_,j,cl,na,_,rfl,rfl,?_⟩;refine fm (λe=>?_) (λe=>?_)
  ·rw[show bS (0,v) p=[[]] from q07 (cT (V.str.inj e))]at q
   exact⟨MZ _,λg d=>⟨ar nofun,λb h1=>q b _ ((af d).free h1) ⟨[g],ae,aL.one ⟨d,[],af h1 _ _ ae,aL.nil⟩⟩ ((af d).trans (af h1))⟩⟩
  ·rw[show bS (0,v) p=[] from q06 λh=>e (by rw[h])]at q
   exact⟨MZ _,λb h1=>q b _ h1 ⟨[],ae,aL.nil⟩ (af h1)⟩
abbrev eD:Stmt:=iJ 39 4
theorem qj:az ["self","cuts"] ["self","cuts"] (am eD):=by walk_at "c"
theorem pz{f:Addr}(F:c8 K "ways" "BesideRule.ways" eD f fd)(cc:iF K CC)(nc:FD K CC)(cl:iF K C)(na:ay K C "one"/\ay K C "other"):↑aV 1 f fd ["self","cuts"] (dB CC C 1):=by
 have sc:=qj;walk_at "f"
 ·obtain⟨a,Y,lp,cu,v,p,r,c,rfl,ha,⟨dc,l1,l2,l3,hc,_,⟨bs,U,O⟩,_⟩,J,t0,t7,q⟩:=h
  have hu:=hr.units;refine⟨_,(ai (aG (bW ["first","second"] [0] rfl (bv.of (by kernel_rfl)) (by kernel_rfl) (aR (bE (ak 1) rfl))
    (λ_ _ _ _=>(nZ (K:=K) (n:=2) rfl rfl (aU (au (i:=0) (by show(["first","second","self"]:List Str).Nodup;decide +kernel) rfl (Or.inl rfl)) (aU (au (i:=1) (by show(["first","second","self"]:List Str).Nodup;decide +kernel) rfl (Or.inl rfl)) du)))) (λ_ _ _ _=>bQ) (λ_ _ _ _=>(bh (aa (bH (aa (ak 0) (aa (nW (K:=K) rfl (ak 2) rfl) ac))) (aa (bH (aa (ak 1) (aa (nW (K:=K) rfl (ak 2) rfl) ac))) ac))))))),?_⟩
  ext;refine⟨CC,dc,_,hc,cc,nc.2.2.1,_,rfl,_,rfl,⟨_,aI.of U⟩,?_⟩;have m:(bs.zip (bM true p (p.headD []).length)).length=(bS (1,v) p).length:=by
   show _=((bM true p (p.headD []).length).map _).length;rw[q0N,O.1,My,Nat.min_self]
  have hpl:(bM true p (p.headD []).length).length<=6:=by
   unfold bM;rw[My,q0J,aW J.rc J.r0];have:=J.c6;omega
  refine fz (qb H) qb.up (as:=bs.zip (bM true p (p.headD []).length)) (emb:=λx=>V.ref x.1) (ys:=bS (1,v) p) m (λσ=>∃x y,σ=[x,y,some (V.ref a)]) ⟨_,_,rfl⟩ (λR s=>by rw[<- O.zip];exact aI.of (s _ _ U)) (by rw[q0N];omega) ?_ ?_
  ·rintro i ⟨b,k⟩ y hx hy σ R N1 N0 ⟨x0,y0,rfl⟩ d k1
   obtain⟨L,M⟩:=O.at hx;have L:(bM true p (p.headD []).length)[i]?=some k:=L;have j:((bM true p (p.headD []).length).map λk=>[(k.1,v.o1),(k.2,v.o2)])[i]?=some y:=hy;rw[MA,L]at j;cases j;ext;have Z:=d _ _ ha;refine⟨_,cy.of (d _ _ M),rfl,_,_,rfl,_,_,rfl,rfl,C,Y,_,Z,cl,na.1,_,rfl,ar nofun,λz I=>?_⟩;generalize D:aD R z _=H1;obtain⟨T,(e1:bp H1 z (k.1,v.o1))⟩:=i4 I D;refine⟨C,Y,_,T _ _ Z,cl,na.2,_,rfl,ar nofun,λu G=>⟨ar nofun,λl g=>?_⟩⟩;generalize D:aD H1 u _=H2 at g ⊢;obtain⟨S,(e2:bp H2 u (k.2,v.o2))⟩:=i4 G D;have B:=af (o:=.lst [V.ref z,V.ref u]) g;have e:=T.trans S;exact k1 l _ _ ⟨d.free (e.free g),[z,u],ae,aL.two ((e1.up S).up B) (e2.up B)⟩ (d.trans (e.trans B)) (e.trans B) ⟨_,_,rfl⟩
  ·intro ws R d hW l g
   exact q l _ (d.free g) ⟨ws,ae,hW.mono λb y _ _ h=>qb.up h (af g)⟩ (d.trans (af g))
abbrev eX:Stmt:=iJ 40 4
theorem qv:az ["self","cuts"] ["self","cuts"] (am eX):=by walk_at "c"
theorem qQ{f:Addr}(F:c8 K "ways" "AboveRule.ways" eX f fd)(cc:iF K CC)(nc:FD K CC)(cl:iF K C)(na:ay K C "one"/\ay K C "other"):↑aV 1 f fd ["self","cuts"] (dB CC C 2):=by
 have sc:=qv;walk_at "f"
 ·obtain⟨a,Y,lp,cu,v,p,r,c,rfl,ha,⟨dc,l1,l2,l3,hc,_,_,⟨bs,U,M⟩⟩,T,t0,t7,q⟩:=h
  have hu:=hr.units;refine⟨_,(ai (aG (bW ["first","second"] [0] rfl (bv.of (by kernel_rfl)) (by kernel_rfl) (aR (bE (ak 1) rfl))
    (λ_ _ _ _=>(nZ (K:=K) (n:=2) rfl rfl (aU (au (i:=0) (by show(["first","second","self"]:List Str).Nodup;decide +kernel) rfl (Or.inl rfl)) (aU (au (i:=1) (by show(["first","second","self"]:List Str).Nodup;decide +kernel) rfl (Or.inl rfl)) du)))) (λ_ _ _ _=>bQ) (λ_ _ _ _=>(bh (aa (bH (aa (ak 0) (aa (nW (K:=K) rfl (ak 2) rfl) ac))) (aa (bH (aa (ak 1) (aa (nW (K:=K) rfl (ak 2) rfl) ac))) ac))))))),?_⟩
  ext;refine⟨CC,dc,_,hc,cc,nc.2.2.2,_,rfl,_,rfl,⟨_,aI.of U⟩,?_⟩;have m:(bs.zip (bM false p p.length)).length=(bS (2,v) p).length:=by
   show _=((bM false p p.length).map _).length;rw[q0N,M.1,My,Nat.min_self]
  have hpl:(bM false p p.length).length<=6:=by
   unfold bM;rw[My,q0J,T.rc.1];have:=T.r6;omega
  refine fz (qb H) qb.up (as:=bs.zip (bM false p p.length)) (emb:=λx=>V.ref x.1) (ys:=bS (2,v) p) m (λσ=>∃x y,σ=[x,y,some (V.ref a)]) ⟨_,_,rfl⟩ (λO s=>by rw[<- M.zip];exact aI.of (s _ _ U)) (by rw[q0N];omega) ?_ ?_
  ·rintro i ⟨b,k⟩ y hx hy σ O N1 N0 ⟨x0,y0,rfl⟩ d k1
   obtain⟨J,L⟩:=M.at hx;have J:(bM false p p.length)[i]?=some k:=J;have j:((bM false p p.length).map λk=>[(k.1,v.o1),(k.2,v.o2)])[i]?=some y:=hy;rw[MA,J]at j;cases j;ext;have Z:=d _ _ ha;refine⟨_,cy.of (d _ _ L),rfl,_,_,rfl,_,_,rfl,rfl,C,Y,_,Z,cl,na.1,_,rfl,ar nofun,λz I=>?_⟩;generalize D:aD O z _=H1;obtain⟨S,(e1:bp H1 z (k.1,v.o1))⟩:=i4 I D;refine⟨C,Y,_,S _ _ Z,cl,na.2,_,rfl,ar nofun,λu G=>⟨ar nofun,λl g=>?_⟩⟩;generalize D:aD H1 u _=H2 at g ⊢;obtain⟨R,(e2:bp H2 u (k.2,v.o2))⟩:=i4 G D;have B:=af (o:=.lst [V.ref z,V.ref u]) g;have e:=S.trans R;exact k1 l _ _ ⟨d.free (e.free g),[z,u],ae,aL.two ((e1.up R).up B) (e2.up B)⟩ (d.trans (e.trans B)) (e.trans B) ⟨_,_,rfl⟩
  ·intro ws O d hW l g
   exact q l _ (d.free g) ⟨ws,ae,hW.mono λb y _ _ h=>qb.up h (af g)⟩ (d.trans (af g))
abbrev fX:Stmt:=iJ 41 4
theorem uT:az ["self","cuts"] ["self","cuts"] (am fX):=by walk_at "c"
theorem tW{f:Addr}(F:c8 K "ways" "TurnRule.ways" fX f fd)(cc:jE K CC)(cl:iF K C)(na:ay K C "part"/\ay K C "turning")(zJa:↑ij 4 CC "turned_text" ["self","t"] (fB CC))(yaD:↑df 1 "back" ["t"] zm):↑aV 5 f fd ["self","cuts"] (dB CC C 3):=by
 have sc:=uT;walk_at "f"
 ·obtain⟨a,B,lp,M,v,p,r,c,rfl,y,z,G,D,t7,q⟩:=h
  refine⟨_,(ai (aG (bh (aa (bh (aa (bH (aa (kW zJa (hr.mono nofun) aM (ak 1) (aa (aH yaD (hr.mono nofun) rfl aM (aa (bE (ak 0) rfl) ac)) ac)) (aa (bE (ak 0) rfl) ac))) ac)) ac)))),?_⟩;ext;obtain⟨L,g,x,l3,I,hr1⟩:=id z;refine⟨L,_,I,rfl,C,B,_,y,cl,na.2,_,rfl,v.t.toNat,?_,⋯,?_⟩
  ·rw[Nq D]
  have u:cW v.t.toNat<8:=(by decide:∀t,t<8->cW t<8) _ ⋯;refine⟨M,p,r,c,cW v.t.toNat,rfl,z,G,u,λH1 e=>⟨C,B,_,e _ _ y,cl,na.1,_,rfl,ar nofun,λj n=>⟨ar nofun,λg d=>⟨ar nofun,λx b=>?_⟩⟩⟩⟩;generalize i:aD H1 j _=H2 at d b ⊢;obtain⟨m,(e2:bp H2 j (bc (turned p (cW v.t.toNat)),v.o1))⟩:=i4 n i;generalize i:aD H2 g _=H3 at b ⊢;obtain⟨l,J⟩:=i4 d i;have k:=af (o:=.lst [V.ref g]) b;exact q x _ (e.free (m.free (l.free b))) ⟨[g],ae,aL.one ⟨e.free (m.free d),[j],k _ _ J,aL.one ((e2.up l).up k)⟩⟩ (e.trans (m.trans (l.trans k)))
def oS(R:RC)(CC:Addr):List (Addr×Sp):=[(R.cc,dB CC R.cc 0),(R.cb,dB CC R.cb 1),(R.ca,dB CC R.ca 2),(R.ct,dB CC R.ct 3)]
theorem BO{R:RC}{CC:Addr}{k cu:Addr}{Q:VK}(hk:k<4)(ra:gu R H k a v)(hC:eR CC H cu p)(hp:fh p r c)(t0:0<=v.t)(t7:v.t<=7)(q:∀l H',H l=none->k9 (qb H) H' l (bS (k,v) p)->ax H H'->Q (.ref l) H') :
  ∃o∈oS R CC,∃dx fs,H a=some (.ins o.1 dx fs)/\fs.lookup ("ways":Str)=none/\o.2 [.ref a,.ref cu] H Q E:=by
 obtain⟨dx,l,h1,h2⟩:=ra;rcases eC hk with rfl | rfl | rfl | rfl
 ·exact⟨(R.cc,dB CC R.cc 0),by simp[oS],dx,_,h1,rfl,a,dx,l,cu,v,p,r,c,rfl,h1,hC,hp,t0,t7,q⟩
 ·exact⟨(R.cb,dB CC R.cb 1),by simp[oS],dx,_,h1,rfl,a,dx,l,cu,v,p,r,c,rfl,h1,hC,hp,t0,t7,q⟩
 ·exact⟨(R.ca,dB CC R.ca 2),by simp[oS],dx,_,h1,rfl,a,dx,l,cu,v,p,r,c,rfl,h1,hC,hp,t0,t7,q⟩
 ·exact⟨(R.ct,dB CC R.ct 3),by simp[oS],dx,_,h1,rfl,a,dx,l,cu,v,p,r,c,rfl,h1,hC,hp,t0,t7,q⟩
abbrev mx:Stmt:=eU 29
def wv:Option Int->V
 |some c=>.int c
 |none=>.non
inductive pL(R:RC)(vs:List V)(H:Hp)(Q:VK)(_E:XK):Prop
 |mk (a lw d:Addr) (k:Nat) (v:RV) (way:List Ky) (T:Ky->Option Int) (_:vs=[.ref a,.ref lw,.ref d]) (_:gu R H k a v) (_:kL H lw way) (_:i8 H d T) (_:Q (wv (b9 T v.c way)) H)
theorem wW:az ["rule","way","told","cost","key"] ["rule","way","told"] (am mx):=by walk_at "c"
theorem xP{f:Addr}(F:c8 K "cost_by" "cost_by" mx f fd)(nb:NB mg)(rk:mR K R):↑aV 1 f fd ["rule","way","told"] (pL R):=by
 have sc:=wW;walk_at "f"
 ·obtain⟨a,J,d,k,v,e,T,rfl,⟨rdx,I,n,_⟩,⟨bs,C,D⟩,O,q⟩:=h
  have B:=hr.units;refine⟨_,(ad (q01 3 sc.nd (bE (ak 0) rfl))
   (ad (aX PassesOwn.never rfl (aR (ak 1)) (q02 4 sc.nd)
   (ad (bB (mH (lU (Nh (Nl (by decide:1<=64) _) B) (ak 4) (ak 2)) (by with_unfolding_all rfl))
   (ai (aG mM))
   aO)
   (ai (q01 3 sc.nd (aF (bC.m0 bY) (ak 3) (kR (Nh (Nl (by decide:1<=64) _) B) (ak 2) (ak 4) (λ_ _=>rfl)))))))
   (ai (aG (ak 3))))),?_⟩
  symm;refine⟨_,_,_,n,(rk.icls k).cl,(rk.name k).2.1,_,(jq I v k).2.1,h1 _ _ ?_⟩;grind;refine⟨⟨_,aI.of C⟩,?_⟩;refine bz (xs:=bs.map V.ref) (λi σ m=>m=H/\i<=e.length/\∃(c:Int) (x:Option V),b9 T v.c e=b9 T c (e.drop i)/\σ=[some (V.ref a),some (V.ref J),some (V.ref d),some (V.int c),x]) ⟨rfl,MZ _,v.c,_,rfl,rfl⟩ (λi σ m _ h=>by rw[h.1];exact aI.of C) ?_ ?_
  ·rintro i x σ m z ⟨rfl,L,c,G,j,rfl⟩
   rw[MA]at z;obtain⟨b,y,rfl⟩:=M5.mp z;obtain⟨g,p,o⟩:=D.get y;have ot:=(Mw.mp p).1;have M:e.drop i=g::e.drop (i+1):=by
    rw[q0T ot];rw[Mv ot]at p;cases p;rfl
   rw[M,show b9 T c (g::e.drop (i+1))=(match T g with | none=>none | some v=>b9 T (c+v) (e.drop (i+1))) from rfl]at j;have r:=O.get o;symm;refine⟨_,r,?_⟩;cases l:T g with
   |none=>
    rw[l]at j;rw[q07 (by rfl)];rw[show b9 T v.c e=none from j]at q;exact q
   |some u=>
    rw[l]at j r;rw[q06 (by simp)];refine h1 _ _ ?_;clear h1;ext;exact⟨_,r,_,rfl,ot,_,j,rfl⟩
  ·rintro σ m ⟨rfl,L,c,G,j,rfl⟩
   refine h1 _ _ ?_;ext;rw[My,D.1,List.drop_length]at j;rw[j]at q;exact q
def xm(T:Ky->Option Int)(p:aB)(n:Nat)(r:Nat×RV):List (Int×Nat×List Ky):=(bS r p).filterMap λw=>(b9 T r.2.c w).map λc=>(c,n,w)
def cU(T:Ky->Option Int)(rs:Yaa)(p:aB)(n:Nat):List (Int×Nat×List Ky):=match rs[n]? with
 |none=>[]
 |some r=>xm T p n r
def uy(H:Hp)(b:Addr)(y:Int×Nat×List Ky):Prop:=∃lw,H b=some (.tup [.int y.1,.int (y.2.1:Int),.ref lw])/\kL H lw y.2.2
def i9(l:Addr)(H:Hp)(b:Addr)(y:Int×Nat×List Ky):Prop:=∃lw,lw≠l/\H b=some (.tup [.int y.1,.int (y.2.1:Int),.ref lw])/\kL H lw y.2.2
theorem i9.up(h:i9 l H b y)(s:ax H H'):i9 l H' b y:=let ⟨lw,h0,h1,h2⟩:=h;⟨lw,h0,s _ _ h1,u9 h2 s⟩
theorem y4(h:kL H a y)(hl:H l=some (.lst xs))(ne:a≠l):kL (aD H l o) a y:=by
 obtain⟨bs,h1,h2⟩:=h;exact⟨bs,by rw[aq ne];exact h1,h2.mono λb k _ _ q=>q.put hl⟩
theorem i9.put(h:i9 l H b y)(hl:H l=some (.lst xs)):i9 l (aD H l o) b y:=by
 obtain⟨c,a,h1,h2⟩:=h;exact⟨c,a,by rw[aq (λz=>by rw[z,hl]at h1;cases h1)];exact h1,y4 h2 hl a⟩
abbrev om:Stmt:=eU 30
inductive sV(R:RC)(CG CC:Addr)(vs:List V)(H:Hp)(Q:VK)(_E:XK):Prop
 |mk (g dx ln cu d:Addr) (sg st:Ny) (as:NC) (rs:Yaa) (ns:Ny) (p:aB) (r c:Nat) (T:Ky->Option Int) (_:vs=[.ref g,.ref ln,.ref cu,.ref d]) (_:cL R H CG dx g sg st as rs) (_:(∀r∈rs,jP r)) (_:H ln=some (.lst (vC ns))) (_:(∀n∈ns,n<rs.length)) (_:ns.length<=100) (_:eR CC H cu p) (_:fh p r c) (_:i8 H d T) (_:∀l H',H l=none->k9 uy H' l (ns.flatMap (cU T rs p))->ax H H'->Q (.ref l) H')
theorem Bv:az ["grammar","numbers","cuts","told","found","number","rule","way","cost"] ["grammar","numbers","cuts","told"] (am om):=by walk_at "c"
theorem rL{r:Nat×RV}(h4:r.1<4)(hp:fh p a c):(bS r p).length<=6:=by
 obtain⟨k,v⟩:=r;have:=hp.r6;have:=hp.c6;rcases eC h4 with h | h | h | h<;>(simp only at h;subst h)
 ·show(if bc p=v.sg then[[]] else[]).length<=6
  split<;>simp
 ·show((bM true p (p.headD []).length).map _).length<=6
  unfold bM;rw[My,My,q0J,aW hp.rc hp.r0];omega
 ·show((bM false p p.length).map _).length<=6
  unfold bM;rw[My,My,q0J,hp.rc.1];omega
 ·show([[_]]:List (List Ky)).length<=6
  simp
theorem BA{α β:Type}(f:α->List β){xs:List α}{i:Nat}{x:α}(h:xs[i]?=some x):(xs.take (i+1)).flatMap f=(xs.take i).flatMap f++f x:=by
 rw[q0E,h,List.flatMap_append];simp
theorem Bw{f:Addr}(F:c8 K "coming" "coming" om f fd)(nb:NB mg)(yar:↑ij 1 CG "rule" ["self","k"] (e_ R CG))(yaE:↑yA 5 "ways" (oS R CC))(ybd:↑df 1 "cost_by" ["rule","way","told"] (pL R)):↑aV 6 f fd ["grammar","numbers","cuts","told"] (sV R CG CC):=by
 have sc:=Bv;walk_at "f"
 ·obtain⟨g,dx,ln,cu,d,sg,st,as,L,ns,p,r,c,T,rfl,hG,hg,b1,c1,hn100,hC,hp,hT,q⟩:=h
  have hu:=hr.units;refine⟨_,(ad (q01 4 sc.nd (bh ac))
   (ad (aX PassesOwn.never rfl (aR (ak 1)) (q02 5 sc.nd)
   (ad (q01 6 sc.nd (kW yar (hr.mono nofun) aM (ak 0) (aa (ak 5) ac)))
   (ai (aX PassesOwn.never rfl (aR (D8 yaE (hr.mono nofun) aM (ak 6) (aa (ak 2) ac))) (q02 7 sc.nd)
   (ad (q01 8 sc.nd (aH ybd (hr.mono nofun) rfl aM (aa (ak 6) (aa (ak 7) (aa (ak 3) ac)))))
   (ai (bB (aK y_ (ak 8) mM (aZ _))
   (ai (ba (dU PySem.F.plainAttrs_list PySem.F.slot_list_append PySem.F.type_list_append cg (ak 4) (aa (bH (aa (ak 8) (aa (ak 5) (aa (ak 7) ac)))) ac))))
   aO)))))))
   (ai (aG (ak 4))))),?_⟩
  symm;refine⟨MZ _,λl hl=>h1 _ _ ?_⟩;clear h1;generalize z0:aD H l _=H1;obtain⟨s1,e1⟩:=i4 hl z0;symm;refine⟨⟨_,aI.of (s1 _ _ b1)⟩,?_⟩;refine bz (xs:=vC ns) (λi σ Y=>ax H Y/\i<=ns.length/\(∃bs:List Addr,Y l=some (.lst (bs.map V.ref))/\aL (i9 l) Y bs ((ns.take i).flatMap (cU T L p))/\bs.length<=6*i)/\∃x1 x2 x3 x4,σ=[some (V.ref g),some (V.ref ln),some (V.ref cu),some (V.ref d),some (V.ref l),x1,x2,x3,x4]) ⟨s1,MZ _,⟨[],e1,aL.nil,MZ _⟩,_,_,_,_,rfl⟩ (λi σ Y _ h=>aI.of (h.1 _ _ b1)) ?_ ?_
  ·rintro i x σ Y hx ⟨sm,_,⟨bs,U,hA,c2⟩,x1,x2,x3,x4,rfl⟩
   rw[vC,MA]at hx;obtain⟨n,hn,rfl⟩:=M5.mp hx;have hi:=(Mw.mp hn).1;have a8:=c1 n (MB hn);obtain⟨k,D⟩:∃k,L[n]?=some k:=⟨_,Mv a8⟩;have C:=hg k (MB D);have b5:=hG.up sm;obtain⟨lk,pn,t0,ha,hkk,a5,hN,hmm⟩:=id b5;obtain⟨b,S⟩:∃b,as[n]?=some b:=⟨_,Mv (by rw[a5.1];exact a8)⟩;have c0:=a5.2 n b k S D;rw[BA _ hn,show cU T L p n=xm T p n k by unfold cU;rw[D]];symm;refine⟨dx,_,ha,rfl,g,dx,sg,st,as,L,n,b,rfl,b5,S,h1 _ _ ?_⟩;clear h1;ext;refine BO C.k4 c0 (hC.up sm) hp C.good.t0 C.good.t7 λlw H2 b0 hW s2=>?_;obtain⟨ws,a2,b4⟩:=hW;have hwl:=rL C.k4 hp;refine⟨lw,rfl,⟨_,aI.of a2⟩,?_⟩;have a0:=sm.trans s2;have hT2:=hT.up a0;have a7:gu R H k.1 b k.2:=let ⟨_,_,_,_,_,hrs0,_,_⟩:=hG;hrs0.2 n b k S D
   have c3:=s2 _ _ U;have a9:lw≠l:=λe=>by rw[e,U]at b0;cases b0
   have h0:aL (i9 l) H2 bs ((ns.take i).flatMap (cU T L p)++((bS k p).take 0).filterMap λw=>(b9 T k.2.c w).map λc=>(c,n,w)):=by
    show aL (i9 l) H2 bs ((ns.take i).flatMap (cU T L p)++[]);rw[Na];exact hA.mono λb y _ _ h=>h.up s2
   refine bz (xs:=ws.map V.ref) (λj σ J=>ax H J/\J lw=some (.lst (ws.map V.ref))/\aL kL J ws (bS k p)/\(∀a∈ws,a≠l)/\j<=ws.length/\(∃bs:List Addr,J l=some (.lst (bs.map V.ref))/\aL (i9 l) J bs ((ns.take i).flatMap (cU T L p)++((bS k p).take j).filterMap λw=>(b9 T k.2.c w).map λc=>(c,n,w))/\bs.length<=6*i+j)/\∃x1 x2,σ=[some (V.ref g),some (V.ref ln),some (V.ref cu),some (V.ref d),some (V.ref l),some (V.int (n:Int)),some (V.ref b),x1,x2])
    ⟨a0,a2,b4.mono λ_ _ _ _ h=>h.2,λa ha=>?_,MZ _,⟨bs,c3,h0,⋯⟩,_,_,rfl⟩ (λj σ J _ h=>aI.of h.2.1) ?_ ?_
   ·obtain⟨j,hj⟩:=List.mem_iff_getElem?.mp ha
    obtain⟨y,_,hy⟩:=b4.get hj;exact λe=>by have:=hy.1;rw[e,U]at this;cases this
   ·rintro j x σ J hx ⟨o,O,m,v,_,⟨I,z,B,b2⟩,y1,y2,rfl⟩
    rw[MA]at hx;obtain⟨wa,M,rfl⟩:=M5.mp hx;obtain⟨u,a4,a1⟩:=m.get M;have hj:=(Mw.mp M).1;have hwlen:=m.1;have a6:=a7.up o;symm;refine⟨b,wa,d,k.1,k.2,u,T,rfl,a6,a1,hT.up o,h1 _ _ ?_⟩;clear h1;rw[q0E,a4,List.filterMap_append,<- Nb];ext;cases b3:b9 T k.2.c u with
    |none=>
     rw[q06 (λh=>h rfl)];refine⟨o,O,m,v,hj,I,z,?_,⋯⟩;rw[show(some u).toList.filterMap (λw=>(b9 T k.2.c w).map λc=>(c,n,w))=[] by simp[b3],Na];exact B
    |some cst=>
     rw[q07 (λh=>nomatch h)];refine⟨.inl ⟨rfl,_,aI.of z⟩,ar nofun,λtp b8=>?_⟩;generalize z0:aD J tp _=H4;obtain⟨Z,(e4:H4 tp=some (.tup [.int cst,.int (n:Int),.ref wa]))⟩:=i4 b8 z0;have G:=Z _ _ z;have a3:=v wa (MB M);refine⟨_,G,by rw[My];exact aY ⋯,cM (o.trans Z) hl,by rw[aq a9];exact Z _ _ O,m.mono λb y U _ h=>y4 (u9 h Z) G (v b U),v,hj,I++[tp],by rw[ae,MN];rfl,?_,by rw[MX];simp;omega⟩;rw[show(some u).toList.filterMap (λw=>(b9 T k.2.c w).map λc=>(c,n,w))=[(cst,n,u)] by simp[b3]];exact(B.mono λb y _ _ h=>(h.up Z).put G).snoc (i9.put ⟨wa,a3,e4,u9 a1 Z⟩ G)
   ·rintro σ J ⟨o,O,m,v,_,⟨I,z,B,b2⟩,y1,y2,rfl⟩
    rw[My,m.1,Nd]at B;rw[My]at b2;exact⟨o,hi,⟨I,z,B,by have:=m.1;omega⟩,_,_,_,_,rfl⟩
  ·rintro σ Y ⟨sm,_,⟨bs,U,hA,c2⟩,x1,x2,x3,x4,rfl⟩
   refine h1 _ _ ?_;ext;rw[vC,My,Nd]at hA;exact q l Y hl ⟨bs,U,hA.mono λb y _ _ h=>let ⟨lw,_,h1,h2⟩:=h;⟨lw,h1,h2⟩⟩ sm
def Iu:HO->Prop
 | .dT _=>True
 |_=>False
def Kp(H H':Hp):Prop:=∀x o,¬ Iu o->H x=some o->H' x=some o
theorem Kp.lst{H H':Hp}(s:Kp H H'){a:Addr}{xs:List V}(h:H a=some (.lst xs)):H' a=some (.lst xs):=s _ _ id h
theorem Kp.tup{H H':Hp}(s:Kp H H'){a:Addr}{xs:List V}(h:H a=some (.tup xs)):H' a=some (.tup xs):=s _ _ id h
theorem Kp.ins{H H':Hp}(s:Kp H H'){a C dx:Addr}{fs:List (Str×V)}(h:H a=some (.ins C dx fs)):H' a=some (.ins C dx fs):=s _ _ id h
theorem Kp.dK{H H':Hp}(s:Kp H H'){a:Addr}{fs:List (c_×V)}(h:H a=some (.dK fs)):H' a=some (.dK fs):=s _ _ id h
theorem bX.kp(h:bX R H as rs)(s:Kp H H'):bX R H' as rs:=by
 refine⟨h.1,λi a r c b=>?_⟩;obtain⟨d,l,h1,h2⟩:=h.2 i a r c b;exact⟨d,l,s.ins h1,s.lst h2⟩
theorem cL.kp{st:Ny}(g:cL R H C dx a sg st as rs)(s:Kp H H'):cL R H' C dx a sg st as rs:=by
 obtain⟨d,c,t,h1,h2,j,b,i⟩:=g;exact⟨d,c,t,s.ins h1,s.lst h2,j.kp s,⟨s.dK b.dict,λx e=>s.lst (b.list x e),b.apart⟩,i⟩
theorem a_.kp(s:a_ d H H')(hd:H d=some (.dT m)):Kp H H':=λx o h e=>s x o (λz=>by rw[z,hd]at e;cases e;exact h trivial) e
theorem Dd{β:Type}{A:Hp->Addr->β->Prop}(u:∀{b:Addr} {y:β},A H b y->A H' b y)(s:Kp H H'){l:Addr}{ys:List β}(h:k9 A H l ys):k9 A H' l ys:=by
 obtain⟨bs,h1,h2⟩:=h;exact⟨bs,s.lst h1,h2.mono λb y _ _ q=>u q⟩
theorem bp.kp(h:bp H a k)(s:Kp H H'):bp H' a k:=s.tup h
theorem eR.kp(h:eR CC H c p)(s:Kp H H'):eR CC H' c p:=by
 obtain⟨i,a,b,d,h1,h2,g,e⟩:=h;exact⟨i,a,b,d,s.ins h1,s.lst h2,Dd (A:=bp) (λq=>q.kp s) s g,Dd (A:=bp) (λq=>q.kp s) s e⟩
theorem uy.kp(h:uy H b y)(s:Kp H H'):uy H' b y:=let ⟨lw,h1,h2⟩:=h;⟨lw,s.tup h1,Dd (A:=bp) (λq=>q.kp s) s h2⟩
abbrev Tb:=List (Ky×Int)
def qr(e:Ky×Int):List c_×V:=(j_ e.1,.int e.2)
def aP(tb:Tb)(k:Ky):Option Int:=(tb.find? λe=>decide (e.1=k)).map (·.2)
def qF(tb:Tb)(k:Ky)(v:Int):Tb:=if(aP tb k).isSome=true then tb.map (λe=>if e.1=k then(e.1,v) else e) else tb++[(k,v)]
theorem dX(e:Ky×Int)(tb:Tb)(k:Ky):aP (e::tb) k=if e.1=k then some e.2 else aP tb k:=by
 unfold aP;rw[List.find?_cons]
 by_cases h:e.1=k
 ·simp[h]
 ·simp[h]
theorem wG(tb:Tb)(k:Ky):dQ (tb.map qr) (j_ k)=(aP tb k).map V.int:=by
 induction tb with
 |nil=>rfl
 |cons e tb ih=>
  rw[M8,dX]
  by_cases h:e.1=k
  ·rw[gy (show(qr e).1=j_ k from q0R j_ h),q07 h];rfl
  ·rw[gL (λq=>h (vE q)),q06 h];exact ih
theorem DV(tb:Tb)(k:Ky)(v:Int):dF (tb.map qr) (j_ k) (.int v)=(qF tb k v).map qr:=by
 unfold dF qF;rw[gC,wG,Option.isSome_map]
 split
 ·rw[MP,MP]
  refine q0K λe _=>?_;show(if j_ e.1=j_ k then(j_ e.1,V.int v) else qr e)=qr (if e.1=k then(e.1,v) else e)
  by_cases h:e.1=k
  ·rw[q07 (q0R j_ h),q07 h];rfl
  ·rw[q06 λq=>h (vE q),q06 h]
 ·rw[MN];rfl
theorem v8(k:Ky)(v:Int)(k':Ky):∀tb:Tb,aP (tb.map λe=>if e.1=k then(e.1,v) else e) k'=if k'=k then(aP tb k).map λ_=>v else aP tb k'
 | []=>by simp[aP]
 |e::tb=>by
  rw[M8,dX,dX,dX,v8 k v k' tb]
  by_cases h:e.1=k
  ·by_cases h':k'=k
   ·simp[h,h']
   ·have:¬ k=k':=λq=>h' q.symm
    simp[h,h',this]
  ·by_cases h':k'=k
   ·subst h';simp[h]
   ·simp[h,h']
theorem sW(k:Ky)(v:Int)(k':Ky):∀tb:Tb,aP (tb++[(k,v)]) k'=match aP tb k' with
  |some u=>some u
  |none=>if k=k' then some v else none
 | []=>by simp[aP]
 |e::tb=>by
  rw[List.cons_append,dX,dX,sW k v k' tb]
  by_cases h:e.1=k'
  ·simp[h]
  ·simp[h]
theorem Ab(tb:Tb)(k:Ky)(v:Int)(k':Ky):aP (qF tb k v) k'=if k'=k then some v else aP tb k':=by
 unfold qF
 split
 ·rename_i h
  rw[v8];obtain⟨u,hu⟩:=Option.isSome_iff_exists.mp h;rw[hu];rfl
 ·rename_i h
  rw[sW]
  by_cases e:k'=k
  ·subst e
   have:aP tb k'=none:=by simpa using h
   rw[this,q07 rfl]
  ·rw[q06 e,q06 λq=>e q.symm]
   cases aP tb k'<;>rfl
theorem DY(h:aP tb k=none):k∉tb.map (·.1):=by
 intro a;obtain⟨e,b,rfl⟩:=Nj.mp a;unfold aP at h;rw[Option.map_eq_none_iff,List.find?_eq_none]at h;exact h e b (by simp)
theorem BL{tb:Tb}(nd:(tb.map (·.1)).Nodup){k:Ky}{v:Int}(h:(k,v)∈tb):aP tb k=some v:=by
 induction tb with
 |nil=>exact nomatch h
 |cons e tb ih=>
  rw[M8,q0b]at nd;rw[dX];rcases MQ.mp h with rfl | h
  ·rw[q07 rfl]
  ·rw[q06 λq=>nd.1 (by rw[q];exact Nj.mpr ⟨_,h,rfl⟩)]
   exact ih nd.2 h
theorem si(tb:Tb)(k:Ky)(v:Int):(qF tb k v).map (·.1)=if(aP tb k).isSome=true then tb.map (·.1) else tb.map (·.1)++[k]:=by
 unfold qF
 split
 ·rw[MP]
  refine q0K λe _=>?_;show(if e.1=k then(e.1,v) else e).1=e.1
  split<;>rfl
 ·rw[MN];rfl
theorem Fm{tb:Tb}(nd:(tb.map (·.1)).Nodup):((qF tb k v).map (·.1)).Nodup:=by
 rw[si]
 split
 ·exact nd
 ·rename_i h
  rw[List.nodup_append];refine⟨nd,by simp,λa ha b hb e=>?_⟩;rw[Mz.mp hb]at e;exact DY (by simpa using h) (e▸ha)
theorem DW(tb:Tb)(k:Ky)(v:Int):(qF tb k v).length=if(aP tb k).isSome=true then tb.length else tb.length+1:=by
 have:=q0R List.length (si tb k v);rw[My]at this;rw[this]
 split
 ·rw[My]
 ·rw[MX,My];rfl
def cj(H:Hp)(d:Addr)(tb:Tb):Prop:=H d=some (.dT (tb.map qr))
theorem cj.told(h:cj H d tb):i8 H d (aP tb):=⟨_,h,λk=>wG tb k⟩
theorem cj.up(h:cj H d tb)(s:ax H H'):cj H' d tb:=s _ _ h
def gS(tb:Tb)(k:Ky)(v:Int):Bool:=match aP tb k with
 |some u=>decide (v<u)
 |none=>true
def dN(tb:Tb)(k:Ky)(v:Int):Tb:=if gS tb k v=true then qF tb k v else tb
def v4(tb tb':Tb):Prop:=∀k u,aP tb k=some u->∃u',u'<=u/\aP tb' k=some u'
theorem v4.refl(tb:Tb):v4 tb tb:=λk u h=>⟨u,Int.le_refl _,h⟩
theorem v4.trans(h1:v4 a b)(h2:v4 b c):v4 a c:=λk u h=>by
 obtain⟨u1,l1,e1⟩:=h1 k u h;obtain⟨u2,l2,e2⟩:=h2 k u1 e1;exact⟨u2,Int.le_trans l2 l1,e2⟩
theorem jp(tb:Tb)(k:Ky)(v:Int)(k':Ky):aP (dN tb k v) k'=if k'=k/\gS tb k v=true then some v else aP tb k':=by
 unfold dN
 by_cases h:gS tb k v=true
 ·rw[q07 h,Ab]
  by_cases e:k'=k
  ·rw[q07 e,q07 ⟨e,h⟩]
  ·rw[q06 e,q06 λq=>e q.1]
 ·rw[q06 h,q06 λq=>h q.2]
theorem uU{k:Ky}{k':Ky}(h:k'≠k):aP (dN tb k v) k'=aP tb k':=by rw[jp,q06 λq=>h q.1]
theorem zN(tb:Tb)(k:Ky)(v:Int):∃v',v'<=v/\aP (dN tb k v) k=some v':=by
 rw[jp];cases h:gS tb k v with
 |true=>exact⟨v,Int.le_refl _,by simp⟩
 |false=>
  unfold gS at h;cases a:aP tb k with
  |none=>rw[a]at h;cases h
  |some u=>
   rw[a]at h;have:¬ v<u:=by simpa using h
   exact⟨u,⋯,by simp⟩
theorem wX(tb:Tb)(k:Ky)(v:Int):v4 tb (dN tb k v):=by
 intro b u a;rw[jp]
 by_cases e:b=k/\gS tb k v=true
 ·rw[q07 e]
  obtain⟨rfl,h⟩:=e;unfold gS at h;rw[a]at h;have:v<u:=by simpa using h
  exact⟨v,⋯,rfl⟩
 ·rw[q06 e];exact⟨u,Int.le_refl _,a⟩
theorem uR{k':Ky}{u:Int}(h:aP (dN tb k v) k'=some u):aP tb k'=some u\/k'=k/\u=v:=by
 rw[jp]at h
 split at h
 ·rename_i e
  exact .inr ⟨e.1,by injection h with h;exact h.symm⟩
 ·exact .inl h
theorem BU{tb:Tb}(nd:(tb.map (·.1)).Nodup):((dN tb k v).map (·.1)).Nodup:=by
 unfold dN
 split
 ·exact Fm nd
 ·exact nd
theorem zH(tb:Tb)(k:Ky)(v:Int):(dN tb k v).length<=if(aP tb k).isSome=true then tb.length else tb.length+1:=by
 unfold dN
 split
 ·rw[DW];exact MY _
 ·split<;>omega
def vc(p:aB):Prop:=p≠[]/\bL p
theorem vc.inj(h:vc p)(h':vc q)(e:bc p=bc q):p=q:=SpM.glue_inj 47 h.1 h'.1 h.2 h'.2 e
inductive Dv(rs:Yaa):Ky->Int->Prop
 |leaf {r:Nat×RV} {p:aB}:r∈rs->vc p->[]∈bS r p->Dv rs (bc p,r.2.n) r.2.c
 |one {r:Nat×RV} {p:aB} {k:Ky} {a:Int}:r∈rs->vc p->[k]∈bS r p->Dv rs k a->Dv rs (bc p,r.2.n) (r.2.c+a)
 |two {r:Nat×RV} {p:aB} {k1 k2:Ky} {a b:Int}:r∈rs->vc p->[k1,k2]∈bS r p->Dv rs k1 a->Dv rs k2 b->Dv rs (bc p,r.2.n) (r.2.c+a+b)
theorem rW{w:List Ky}(h:w∈bS r p):w=[]\/(∃k,w=[k])\/∃k1 k2,w=[k1,k2]:=by
 unfold bS at h
 split at h
 ·split at h
  ·exact .inl (Mz.mp h)
  ·exact nomatch h
 ·obtain⟨k,_,rfl⟩:=Nj.mp h
  exact .inr (.inr ⟨_,_,rfl⟩)
 ·obtain⟨k,_,rfl⟩:=Nj.mp h
  exact .inr (.inr ⟨_,_,rfl⟩)
 ·exact .inr (.inl ⟨_,Mz.mp h⟩)
theorem pZ{v:Int}{k:Ky}(h:b9 T c [k]=some v):∃a,T k=some a/\v=c+a:=by
 unfold b9 at h;cases b:T k with
 |none=>rw[b]at h;cases h
 |some a=>rw[b]at h;injection h with h;exact⟨a,rfl,h.symm⟩
theorem vM{v:Int}{k1 k2:Ky}(h:b9 T c [k1,k2]=some v):∃a b,T k1=some a/\T k2=some b/\v=c+a+b:=by
 unfold b9 at h;cases d:T k1 with
 |none=>rw[d]at h;cases h
 |some a=>
  rw[d]at h;obtain⟨b,g,e⟩:=pZ h;exact⟨a,b,rfl,g,e⟩
theorem EO{rs:Yaa}{r:Nat×RV}{w:List Ky}{v:Int}(hr:r∈rs)(hp:vc p)(hw:w∈bS r p)(hc:b9 T r.2.c w=some v)(hT:∀k∈w,∀u,T k=some u->Dv rs k u):Dv rs (bc p,r.2.n) v:=by
 rcases rW hw with rfl | ⟨k,rfl⟩ | ⟨g,e,rfl⟩
 ·injection hc with hc;rw[<- hc];exact .leaf hr hp hw
 ·obtain⟨a,d,rfl⟩:=pZ hc
  exact .one hr hp hw (hT k (by simp) a d)
 ·obtain⟨a,b,d,i,rfl⟩:=vM hc
  exact .two hr hp hw (hT g (by simp) a d) (hT e (by simp) b i)
theorem jw{T T':Ky->Option Int}:∀{w:List Ky} {c:Int},(∀k∈w,T k=T' k)->b9 T c w=b9 T' c w
 | [],c,_=>rfl
 |k::w,c,h=>by
  show(match T k with | none=>none | some v=>b9 T (c+v) w)=(match T' k with | none=>none | some v=>b9 T' (c+v) w);rw[h k (q0B ..)];cases T' k with
  |none=>rfl
  |some v=>exact jw λk hk=>h k (MR _ hk)
def IU(rs:Yaa)(T:Ky->Option Int)(q:aB):Prop:=∀r∈rs,∀w∈bS r q,∀v,b9 T r.2.c w=some v->∃v',v'<=v/\T (bc q,r.2.n)=some v'
set_option tactic.hygienic true in
set_option tactic.hygienic true in
theorem rJ(hq:rect q a c)(a0:0<a)(c0:0<c){w:List Ky}(hw:w∈bS r q){k:Ky}(hk:k∈w) :
  (∃t l b x,t<b/\b<=a/\l<x/\x<=c/\k.1=bc (cut q t l b x)/\bu (cut q t l b x)<bu q/\r.1<3)\/(3<=r.1/\w=[(bc (turned q (cW r.2.t.toNat)),r.2.o1)]):=by
 have cell:∀{t l b x:Nat},t<b->b<=a->l<x->x<=c->(b-t<a/\x-l=c\/b-t=a/\x-l<c)->bu (cut q t l b x)<bu q:=by
  intro t l b x h1 h2 h3 h4 h5;have hc:=cF hq h1 h2 h3 h4;unfold bu;rw[hc.1,aW hc ⋯,hq.1,aW hq a0];rcases h5 with⟨h,e⟩ | ⟨e,h⟩
  ·rw[e];exact Nat.mul_lt_mul_of_pos_right h c0
  ·rw[e];exact Nat.mul_lt_mul_of_pos_left h a0
 unfold bS at hw
 split at hw
 ·split at hw
  ·rw[Mz.mp hw]at hk;exact nomatch hk
  ·exact nomatch hw
 ·rename_i hr
  obtain⟨k0,h0,rfl⟩:=Nj.mp hw;unfold bM at h0;obtain⟨j,hj,rfl⟩:=Nj.mp h0;have hj:=List.mem_range.mp hj;rw[aW hq a0]at hj
  left
  rcases MQ.mp hk with rfl | hk
  ·exact⟨0,0,a,j+1,a0,MY _,⋯,⋯,q0R bc (sj hq),cell a0 (MY _) ⋯ ⋯ (.inr ⟨⋯,⋯⟩),⋯⟩
  ·rw[Mz.mp hk]
   exact⟨0,j+1,a,c,a0,MY _,⋯,MY _,q0R bc (r8 hq),cell a0 (MY _) ⋯ (MY _) (.inr ⟨⋯,⋯⟩),⋯⟩
 ·rename_i hr
  obtain⟨k0,h0,rfl⟩:=Nj.mp hw;unfold bM at h0;obtain⟨j,hj,rfl⟩:=Nj.mp h0;have hj:=List.mem_range.mp hj;rw[hq.1]at hj
  left
  rcases MQ.mp hk with rfl | hk
  ·exact⟨0,0,j+1,c,⋯,⋯,c0,MY _,q0R bc (sO hq),cell ⋯ ⋯ c0 (MY _) (.inl ⟨⋯,⋯⟩),⋯⟩
  ·rw[Mz.mp hk]
   exact⟨j+1,0,a,c,⋯,MY _,c0,MY _,q0R bc (sP hq),cell ⋯ (MY _) c0 (MY _) (.inl ⟨⋯,⋯⟩),⋯⟩
 ·rename_i x h0 h1 h2
  right
  refine⟨?_,Mz.mp hw⟩;rcases hh:r.1 with _ | _ | _ | n
  ·exact q0Q hh h0
  ·exact q0Q hh h1
  ·exact q0Q hh h2
  ·omega
theorem eN(hp:rect p r c)(hn:bL p)(h:bf p r c q):vc q:=by
 obtain⟨r',c',h1,h2,_⟩:=h.rect hp;exact⟨λe=>by rw[e]at h1;have:=h1.1;simp at this;omega,h.ns hp hn⟩
theorem kT(hp:rect p r c)(h:bf p r c q){x:Nat×RV}(t0:0<=x.2.t)(t7:x.2.t<=7){w:List Ky}(hw:w∈bS x q){k:Ky}(hk:k∈w):∃q',bf p r c q'/\k.1=bc q'/\(bu q'<bu q\/3<=x.1/\q'=turned q (cW x.2.t.toNat)):=by
 obtain⟨a,b,h1,h2,n,_⟩:=h.rect hp;rcases rJ h1 h2 n hw hk with⟨t,l,b,y,d,m,j,i,g,e,_⟩ | ⟨d,rfl⟩
 ·exact⟨_,h.cut hp h1 d m j i,g,.inl e⟩
 ·rw[Mz.mp hk]
  exact⟨_,h.turned hp (lv ⋯),rfl,.inr ⟨d,rfl⟩⟩
theorem vd{rs:Yaa}(hp:rect p r c)(hn:bL p)(hg:∀x∈rs,0<=x.2.t/\x.2.t<=7)(hC:∀q,bf p r c q->IU rs T q){k:Ky}{v:Int}(h:Dv rs k v):∀q,bf p r c q->k.1=bc q->∃v',v'<=v/\T k=some v':=by
 induction h with
 | @leaf x q0 hr ho hw=>
  intro q d e;have e:=ho.inj (eN hp hn d) e;subst e;exact hC _ d x hr _ hw _ rfl
 | @one x q0 k a hr ho hw _ ih=>
  intro q d e;have e:=ho.inj (eN hp hn d) e;subst e;obtain⟨g,h1,j,_⟩:=kT hp d (hg x hr).1 (hg x hr).2 hw (k:=k) (by simp);obtain⟨m,o,i⟩:=ih g h1 j;obtain⟨v',u,l⟩:=hC _ d x hr _ hw (x.2.c+m) (by unfold b9;rw[i];rfl);exact⟨v',⋯,l⟩
 | @two x q0 k1 k2 a b hr ho hw _ _ ih1 ih2=>
  intro q d e;have e:=ho.inj (eN hp hn d) e;subst e;obtain⟨g,h1,j,_⟩:=kT hp d (hg x hr).1 (hg x hr).2 hw (k:=k1) (by simp);obtain⟨n,h2,y,_⟩:=kT hp d (hg x hr).1 (hg x hr).2 hw (k:=k2) (by simp);obtain⟨m,o,i⟩:=ih1 g h1 j;obtain⟨z,lb,w⟩:=ih2 n h2 y;obtain⟨v',u,l⟩:=hC _ d x hr _ hw (x.2.c+m+z) (by unfold b9;rw[i];show b9 T _ [k2]=_;unfold b9;rw[w];rfl);exact⟨v',⋯,l⟩
def CK(q:aB)(ns:List (List Nat)):List Ky:=(List.range 8).flatMap λt=>ns.map λn=>(bc (turned q t),n)
theorem ki{ns:List (List Nat)}{k:Ky}:k∈CK q ns↔∃t,t<8/\∃n,n∈ns/\k=(bc (turned q t),n):=by
 unfold CK;simp only[List.mem_flatMap,List.mem_range,Nj]
 constructor
 ·rintro⟨t,a,n,b,rfl⟩;exact⟨t,a,n,b,rfl⟩
 ·rintro⟨t,a,n,b,rfl⟩;exact⟨t,a,n,b,rfl⟩
theorem tf(q:aB)(ns:List (List Nat)):(CK q ns).length=8*ns.length:=by
 unfold CK;rw[List.length_flatMap];simp only[My];show ns.length+(ns.length+(ns.length+(ns.length+(ns.length+(ns.length+(ns.length+(ns.length+0)))))))=_;omega
def gJ(q:aB)(r:Nat×RV)(t:Nat):Ky:=(bc (turned q (after t r.2.t.toNat)),r.2.n)
def DO(trs:Yaa)(q:aB)(tb:Tb)(k:Ky)(v:Int):Prop:=∀r∈trs,r.2.o1=k.2->∀t,t<8->k.1=bc (turned q t)->∃v',v'<=v+r.2.c/\aP tb (gJ q r t)=some v'
theorem DO.le{trs:Yaa}{tb':Tb}(h:DO trs q tb k v)(l:v4 tb tb'):DO trs q tb' k v:=λr hr e t ht e'=>by
 obtain⟨v1,l1,e1⟩:=h r hr e t ht e';obtain⟨v2,l2,e2⟩:=l _ _ e1;exact⟨v2,Int.le_trans l2 l1,e2⟩
theorem uw{α:Type}{f g:α->Nat}:∀{ks:List α},(∀x∈ks,f x<=g x)->(ks.map f).sum<=(ks.map g).sum
 | [],_=>MY _
 |k::ks,h=>by
  have h1:=h k (q0B ..);have h2:=uw (ks:=ks) λx hx=>h x (MR _ hx);rw[M8,M8,List.sum_cons,List.sum_cons];omega
theorem uz{α:Type}{f g:α->Nat}:∀{ks:List α} {x:α},(∀x∈ks,f x<=g x)->x∈ks->f x<g x->(ks.map f).sum+1<=(ks.map g).sum
 | [],_,_,h,_=>nomatch h
 |k::ks,x,h,hx,hl=>by
  have h1:=h k (q0B ..);have hr:∀x∈ks,f x<=g x:=λx hx=>h x (MR _ hx);rw[M8,M8,List.sum_cons,List.sum_cons];rcases MQ.mp hx with rfl | hx
  ·have h2:=uw hr;omega
  ·have h2:=uz hr hx hl;omega
theorem pX{α:Type}{f:α->Nat}{b:Nat}:∀{ks:List α},(∀x∈ks,f x<=b)->(ks.map f).sum<=b*ks.length
 | [],_=>MZ _
 |k::ks,h=>by
  have h1:=h k (q0B ..);have h2:=pX (ks:=ks) λx hx=>h x (MR _ hx);rw[M8,List.sum_cons,MM,Nat.mul_succ];omega
def xa(tb:Tb)(k:Ky):Nat:=match aP tb k with
 |some _=>1
 |none=>0
def Fc(B:Nat)(tb:Tb)(k:Ky):Nat:=match aP tb k with
 |some v=>v.toNat
 |none=>B+1
def oX(ks:List Ky)(tb:Tb):Nat:=(ks.map (xa tb)).sum
def GH(ks:List Ky)(B:Nat)(tb:Tb):Nat:=(ks.map (Fc B tb)).sum
theorem gR(ks:List Ky)(tb:Tb):oX ks tb<=ks.length:=by
 have:=pX (f:=xa tb) (b:=1) (ks:=ks) λx _=>by unfold xa;split<;>omega
 unfold oX;omega
theorem zE{tb':Tb}(l:v4 tb tb')(k:Ky):xa tb k<=xa tb' k:=by
 unfold xa;cases h:aP tb k with
 |none=>exact MZ _
 |some v=>
  obtain⟨v',_,e⟩:=l k v h;rw[e];exact MY _
theorem GA{tb':Tb}(l:v4 tb tb')(ks:List Ky):oX ks tb<=oX ks tb':=uw λx _=>zE l x
theorem EK{tb':Tb}(l:v4 tb tb'){ks:List Ky}{k:Ky}{v:Int}(hk:k∈ks)(h:aP tb k=none)(h':aP tb' k=some v):oX ks tb+1<=oX ks tb':=uz (λx _=>zE l x) hk (by unfold xa;rw[h,h'];exact Nat.zero_lt_one)
structure TI(trs rs:Yaa)(q:aB)(ns:List (List Nat))(M L0:Nat)(tb0 tb:Tb)(op:Ky->Prop):Prop where
 nd:(tb.map (·.1)).Nodup
 le:v4 tb0 tb
 out:∀k,k∉CK q ns->aP tb k=aP tb0 k
 snd:∀k∈CK q ns,∀v,aP tb k=some v->Dv rs k v
 sett:∀k∈CK q ns,∀v,aP tb k=some v->¬ op k->DO trs q tb k v
 opk:∀k,op k->k∈CK q ns/\∃v,aP tb k=some v
 pos:∀k∈CK q ns,∀v,aP tb k=some v->1<=v/\v<=((M+9*oX (CK q ns) tb:Nat):Int)
 len:tb.length<=L0+oX (CK q ns) tb
theorem TI.op{trs:Yaa}{ns:List (List Nat)}{L0:Nat}{tb0:Tb}{op op':Ky->Prop}(h:TI trs rs q ns M L0 tb0 tb op)(h1:∀k,op' k->op k)(h2:∀k v,op k->¬ op' k->aP tb k=some v->DO trs q tb k v):TI trs rs q ns M L0 tb0 tb op':=
 ⟨h.nd,h.le,h.out,h.snd,λk hk v e no=>by
  by_cases ho:op k
  ·exact h2 k v ho no e
  ·exact h.sett k hk v e ho,λk ho=>h.opk k (h1 k ho),h.pos,h.len⟩
theorem mQ{r:Nat×RV}(h:3<=r.1)(p:aB):bS r p=[[(bc (turned p (cW r.2.t.toNat)),r.2.o1)]]:=by
 unfold bS
 split
 ·omega
 ·omega
 ·omega
 ·rfl
structure JD(rs:Yaa)(ns:List (List Nat))(r:Nat×RV):Prop where
 mem:r∈rs
 k3:3<=r.1
 c1:1<=r.2.c
 c9:r.2.c<=9
 t0:0<=r.2.t
 t7:r.2.t<=7
 nm:r.2.n∈ns
theorem TI.low{trs:Yaa}{ns:List (List Nat)}{L0:Nat}{tb0:Tb}{op:Ky->Prop}(h:TI trs rs q ns M L0 tb0 tb op)(hq:rect q a c)(a0:0<a)(c0:0<c)(hO:∀t,t<8->vc (turned q t))(h8:ns.length<=8){r:Nat×RV}(hr:JD rs ns r){t:Nat}(ht:t<8){v:Int}(hk:(bc (turned q t),r.2.o1)∈CK q ns)(hv:aP tb (bc (turned q t),r.2.o1)=some v) :
  TI trs rs q ns M L0 tb0 (dN tb (gJ q r t) (v+r.2.c)) (λx=>op x\/(gS tb (gJ q r t) (v+r.2.c)=true/\x=gJ q r t))/\GH (CK q ns) (M+576) (dN tb (gJ q r t) (v+r.2.c))+(if gS tb (gJ q r t) (v+r.2.c)=true then 1 else 0)<=GH (CK q ns) (M+576) tb:=by
 have B:r.2.t.toNat<8:=by have:=hr.t0;have:=hr.t7;omega
 have G:=gw ht B;have g:gJ q r t∈CK q ns:=ki.mpr ⟨_,G,_,hr.nm,rfl⟩;have m:Dv rs (gJ q r t) (v+r.2.c):=by
  rw[Int.add_comm];refine Dv.one hr.mem (hO _ G) (k:=(bc (turned q t),r.2.o1)) ?_ (h.snd _ hk v hv);rw[mQ hr.k3];have C:=cP hq a0 c0 t;rw[<- bN hq a0 c0 ht B,i' C (by split<;>assumption) (by split<;>assumption) B];exact Mz.mpr rfl
 have hc1:=hr.c1;have hc9:=hr.c9;obtain⟨p1,p2⟩:=h.pos _ hk v hv;generalize gJ q r t=k' at g m ⊢;generalize hv':v+r.2.c=v' at m ⊢;cases o:gS tb k' v' with
 |false=>
  have e:dN tb k' v'=tb:=by unfold dN;rw[o];rfl
  rw[e];exact⟨h.op (λk hk=>hk.elim id λx=>q0Q x.1 (by simp)) λk v l p _=>q0Q (.inl l) p,by simp⟩
 |true=>
  have d:=wX tb k' v';have hcl:=GA d (CK q ns);have b:aP (dN tb k' v') k'=some v':=by rw[jp,q07 ⟨rfl,o⟩]
  have D:=gR (CK q ns) (dN tb k' v');rw[tf]at D;have j:∀w,aP tb k'=some w->v'<w:=λw i=>by
   unfold gS at o;rw[i]at o
   simpa using o
  have n:aP tb k'=none->oX (CK q ns) tb+1<=oX (CK q ns) (dN tb k' v'):=λI=>EK d g I b;have z:v'<=((M+9*oX (CK q ns) (dN tb k' v'):Nat):Int):=by
   cases i:aP tb k' with
   |none=>have:=n i;omega
   |some w=>
    have h1:=j w i;have h2:=(h.pos _ g w i).2;omega
  refine⟨⟨BU h.nd,h.le.trans d,λk hk=>?_,λk hk w e=>?_,λk hk w e p=>?_,λk l=>?_,λk hk w e=>?_,?_⟩,?_⟩
  ·rw[uU λe=>hk (by rw[e];exact g)];exact h.out k hk
  ·rcases uR e with e | ⟨rfl,rfl⟩
   ·exact h.snd k hk w e
   ·exact m
  ·have ne:k≠k':=λe=>p (.inr ⟨rfl,e⟩)
   rw[uU ne]at e;exact(h.sett k hk w e λl=>p (.inl l)).le d
  ·rcases l with l | ⟨_,rfl⟩
   ·obtain⟨h1,w,h2⟩:=h.opk k l
    obtain⟨y,_,J⟩:=d k w h2;exact⟨h1,y,J⟩
   ·exact⟨g,v',b⟩
  ·rcases uR e with e | ⟨rfl,rfl⟩
   ·have:=h.pos k hk w e
    exact⟨this.1,⋯⟩
   ·exact⟨⋯,z⟩
  ·have h1:=zH tb k' v'
   have h2:=h.len;cases i:aP tb k' with
   |none=>rw[i]at h1;have:=n i;simp at h1;omega
   |some w=>rw[i]at h1;simp at h1;omega
  ·rw[q07 rfl]
   refine uz (x:=k') (λx _=>?_) g ?_
   ·unfold Fc
    cases u:aP tb x with
    |none=>
     by_cases e:x=k'
     ·subst e;rw[b]
      show v'.toNat<=_;simp only;omega
     ·rw[uU e,u];exact MY _
    |some w=>
     obtain⟨y,l1,L⟩:=d x w u;rw[L];show y.toNat<=w.toNat;omega
   ·unfold Fc
    rw[b];cases u:aP tb k' with
    |none=>show v'.toNat<_;simp only;omega
    |some w=>
     have:=j w u;show v'.toNat<w.toNat;omega
theorem TI.mu{trs:Yaa}{ns:List (List Nat)}{L0:Nat}{tb0:Tb}{op:Ky->Prop}(h:TI trs rs q ns M L0 tb0 tb op)(h8:ns.length<=8):GH (CK q ns) (M+576) tb<=(M+577)*64:=by
 have h64:=gR (CK q ns) tb;have hl:=tf q ns;have h1:GH (CK q ns) (M+576) tb<=(M+577)*(CK q ns).length:=pX λx a=>by
  unfold Fc;cases b:aP tb x with
  |none=>exact MY _
  |some v=>
   have:=(h.pos x a v b).2;show v.toNat<=_;omega
 exact M9 h1 (Nat.mul_le_mul_left _ ⋯)
theorem TI.len64{trs:Yaa}{ns:List (List Nat)}{L0:Nat}{tb0:Tb}{op:Ky->Prop}(h:TI trs rs q ns M L0 tb0 tb op)(h8:ns.length<=8):tb.length<=L0+64:=by
 have h64:=gR (CK q ns) tb;have hl:=tf q ns;have:=h.len;omega
def mB(rs:Yaa)(n:Nat):List Nat:=match rs[n]? with
 |some r=>r.2.n
 |none=>[]
def qU(rs:Yaa)(p:aB)(tb:Tb)(ys:List (Int×Nat×List Ky)):Tb:=ys.foldl (λtb y=>dN tb (bc p,mB rs y.2.1) y.1) tb
def HX(rs:Yaa)(ns:Ny)(p:aB)(tb:Tb):Tb:=qU rs p tb (ns.flatMap (cU (aP tb) rs p))
structure Jw(rs:Yaa)(p:aB)(tb tb':Tb)(ys:List (Int×Nat×List Ky)):Prop where
 le:v4 tb tb'
 out:∀k:Ky,k.1≠bc p->aP tb' k=aP tb k
 all:∀y∈ys,∃v',v'<=y.1/\aP tb' (bc p,mB rs y.2.1)=some v'
 val:∀k v,aP tb' k=some v->aP tb k=some v\/∃y∈ys,k=(bc p,mB rs y.2.1)/\v=y.1
 len:tb'.length<=tb.length+ys.length
 nd:(tb.map (·.1)).Nodup->(tb'.map (·.1)).Nodup
theorem lI(rs:Yaa)(p:aB):∀(ys:List (Int×Nat×List Ky)) (tb:Tb),Jw rs p tb (qU rs p tb ys) ys
 | [],tb=>⟨v4.refl _,λ_ _=>rfl,(λy hy=>nomatch hy),λk v h=>.inl h,MY _,id⟩
 |y::ys,tb=>by
  have ih:=lI rs p ys (dN tb (bc p,mB rs y.2.1) y.1);have e:qU rs p tb (y::ys)=qU rs p (dN tb (bc p,mB rs y.2.1) y.1) ys:=rfl;rw[e];refine⟨(wX _ _ _).trans ih.le,λk hk=>?_,λz hz=>?_,λk v h=>?_,?_,λnd=>ih.nd (BU nd)⟩
  ·rw[ih.out k hk,uU λq=>hk (by rw[q])]
  ·rcases MQ.mp hz with rfl | hz
   ·obtain⟨v,l1,e1⟩:=zN tb (bc p,mB rs z.2.1) z.1
    obtain⟨v',l2,e2⟩:=ih.le _ _ e1;exact⟨v',Int.le_trans l2 l1,e2⟩
   ·exact ih.all z hz
  ·rcases ih.val k v h with h | ⟨z,hz,e1,e2⟩
   ·rcases uR h with h | ⟨e1,e2⟩
    ·exact .inl h
    ·exact .inr ⟨y,q0B ..,e1,e2⟩
   ·exact .inr ⟨z,MR _ hz,e1,e2⟩
  ·have h1:=ih.len
   have h2:=zH tb (bc p,mB rs y.2.1) y.1;rw[MM]
   split at h2<;>omega
theorem rV{ns:Ny}{y:Int×Nat×List Ky}(h:y∈ns.flatMap (cU T rs p)):y.2.1∈ns/\∃r,rs[y.2.1]?=some r/\y.2.2∈bS r p/\b9 T r.2.c y.2.2=some y.1:=by
 obtain⟨n,d,a⟩:=List.mem_flatMap.mp h;unfold cU at a;cases hr:rs[n]? with
 |none=>rw[hr]at a;exact nomatch a
 |some r=>
  rw[hr]at a;unfold xm at a;obtain⟨w,b,e⟩:=List.mem_filterMap.mp a;obtain⟨c,g,rfl⟩:=M5.mp e;exact⟨d,r,hr,b,g⟩
theorem A1{rs:Yaa}{ns:Ny}{n:Nat}{r:Nat×RV}{w:List Ky}{v:Int}(hn:n∈ns)(hr:rs[n]?=some r)(hw:w∈bS r p)(hc:b9 T r.2.c w=some v):(v,n,w)∈ns.flatMap (cU T rs p):=by
 refine List.mem_flatMap.mpr ⟨n,hn,?_⟩;unfold cU;rw[hr];exact List.mem_filterMap.mpr ⟨w,hw,by rw[hc];rfl⟩
theorem kg{rs:Yaa}(hp:fh p a c)(hg:∀r∈rs,r.1<4):∀ns:List Nat,(ns.flatMap (cU T rs p)).length<=6*ns.length
 | []=>MY _
 |n::ns=>by
  have ih:=kg (T:=T) hp hg ns;rw[List.flatMap_cons,MX,MM];have:(cU T rs p n).length<=6:=by
   unfold cU;cases hr:rs[n]? with
   |none=>exact MZ _
   |some r=>exact M9 (List.length_filterMap_le _ _) (rL (hg r (MB hr)) hp)
  omega
def pta(rs:Yaa)(ns:Ny)(q:aB)(tb:Tb):Nat->Tb
 |0=>tb
 |n+1=>HX rs ns (turned q n) (pta rs ns q tb n)
def eQ(rs:Yaa):List Nat:=rs.zipIdx.filterMap λx=>if x.1.1=3 then none else some x.2
theorem kO{n:Nat}:n∈eQ rs↔∃r,rs[n]?=some r/\r.1≠3:=by
 unfold eQ;rw[List.mem_filterMap]
 constructor
 ·rintro⟨⟨r,i⟩,hm,e⟩
  have hi:=List.mem_zipIdx_iff_getElem?.mp hm
  split at e
  ·cases e
  ·rename_i h
   injection e with e
   subst e;exact⟨r,hi,h⟩
 ·rintro⟨r,hr,h⟩
  exact⟨(r,n),List.mem_zipIdx_iff_getElem?.mpr hr,by rw[q06 h]⟩
def qf(rs:Yaa):Yaa:=rs.filter λr=>decide (r.1=3)
structure D7(rs:Yaa)(ns:Ny)(q:aB)(tb0 tb:Tb)(n:Nat):Prop where
 le:v4 tb0 tb
 out:∀k:Ky,(∀t,t<8->k.1≠bc (turned q t))->aP tb k=aP tb0 k
 all:∀t,t<n->∀m∈ns,∀r,rs[m]?=some r->∀w∈bS r (turned q t),∀v,b9 (aP tb0) r.2.c w=some v->∃v',v'<=v/\aP tb (bc (turned q t),r.2.n)=some v'
 val:∀k v,aP tb k=some v->aP tb0 k=some v\/∃t,t<8/\∃r∈rs,r.1≠3/\∃w∈bS r (turned q t),b9 (aP tb0) r.2.c w=some v/\k=(bc (turned q t),r.2.n)
 len:tb.length<=tb0.length+6*ns.length*n
 nd:(tb0.map (·.1)).Nodup->(tb.map (·.1)).Nodup
theorem vW{rs:Yaa}{n:Nat}{r:Nat×RV}(h:rs[n]?=some r):mB rs n=r.2.n:=by unfold mB;rw[h]
theorem wg{rs:Yaa}{tb0:Tb}{a c:Nat}(hg:∀r∈rs,r.1<4)(h6:∀t,t<8->∃a c,fh (turned q t) a c)
  (hK:∀t,t<8->∀r∈rs,r.1≠3->∀w∈bS r (turned q t),∀k∈w,∀t',t'<8->k.1≠bc (turned q t')):∀n,n<=8->D7 rs (eQ rs) q tb0 (pta rs (eQ rs) q tb0 n) n
 |0,_=>⟨v4.refl _,λ_ _=>rfl,λt ht=>q0Q ht (Nat.not_lt_zero _),λk v h=>.inl h,by simp[pta],id⟩
 |n+1,hn=>by
  have ih:=wg (tb0:=tb0) (a:=a) (c:=c) hg h6 hK n ⋯;have e:pta rs (eQ rs) q tb0 (n+1)=HX rs (eQ rs) (turned q n) (pta rs (eQ rs) q tb0 n):=rfl;rw[e];generalize pta rs (eQ rs) q tb0 n=tb at ih ⊢;unfold HX;have ps:=lI rs (turned q n) ((eQ rs).flatMap (cU (aP tb) rs (turned q n))) tb;obtain⟨a',c',h6'⟩:=h6 n ⋯;have hl:=kg (T:=aP tb) h6' hg (eQ rs);have same:∀{r:Nat×RV},r∈rs->r.1≠3->∀{w:List Ky},w∈bS r (turned q n)->b9 (aP tb) r.2.c w=b9 (aP tb0) r.2.c w:=fun{r} hr h3 {w} hw=>jw λk hk=>ih.out k λt' ht'=>hK n ⋯ r hr h3 w hw k hk t' ht';refine⟨ih.le.trans ps.le,λk hk=>?_,λt ht m hm r hr w hw v hv=>?_,λk v h=>?_,?_,λnd=>ps.nd (ih.nd nd)⟩
  ·rw[ps.out k (hk n ⋯)];exact ih.out k hk
  ·by_cases et:t=n
   ·subst et
    obtain⟨r',hr',h3⟩:=kO.mp hm;rw[hr]at hr';cases hr'
    obtain⟨v',l',e'⟩:=ps.all _ (A1 (v:=v) hm hr hw (by rw[same (MB hr) h3 hw];exact hv));rw[show mB rs m=r.2.n from vW hr]at e';exact⟨v',l',e'⟩
   ·obtain⟨v1,l1,e1⟩:=ih.all t ⋯ m hm r hr w hw v hv
    obtain⟨v2,l2,e2⟩:=ps.le _ _ e1;exact⟨v2,Int.le_trans l2 l1,e2⟩
  ·rcases ps.val k v h with h | ⟨y,hy,e1,e2⟩
   ·exact ih.val k v h
   ·obtain⟨h1,r,h2,h3,h4⟩:=rV hy
    obtain⟨r',hr',h5⟩:=kO.mp h1;rw[h2]at hr';cases hr'
    have hm:=MB h2;rw[vW h2]at e1;exact .inr ⟨n,⋯,r,hm,h5,_,h3,by rw[<- same hm h5 h3,h4,e2],e1⟩
  ·have h1:=ps.len
   have h2:=ih.len;rw[Nat.mul_add];omega
theorem h_(hq:rect q a c)(a0:0<a)(c0:0<c)(t:Nat):bu (turned q t)=bu q:=by
 have b:=cP hq a0 c0 t;unfold bu;rw[b.1,aW b (by split<;>assumption),hq.1,aW hq a0]
 split
 ·rfl
 ·rw[Nat.mul_comm]
theorem EG(hq:rect q a c)(a0:0<a)(c0:0<c){k1 k2:Ky}(hw:[k1,k2]∈bS r q):∃q1 q2,(∃t l b x,t<b/\b<=a/\l<x/\x<=c/\q1=cut q t l b x)/\(∃t l b x,t<b/\b<=a/\l<x/\x<=c/\q2=cut q t l b x)/\k1.1=bc q1/\k2.1=bc q2/\bu q1+bu q2=bu q:=by
 have d:∀{t l b x:Nat},t<b->b<=a->l<x->x<=c->bu (cut q t l b x)=(b-t)*(x-l):=by
  intro t l b x h1 h2 o n;have k:=cF hq h1 h2 o n;unfold bu;rw[k.1,aW k ⋯]
 have all:bu q=a*c:=by unfold bu;rw[hq.1,aW hq a0]
 unfold bS at hw
 split at hw
 ·split at hw
  ·exact nomatch Mz.mp hw
  ·exact nomatch hw
 ·obtain⟨m,i,e⟩:=Nj.mp hw
  unfold bM at i;obtain⟨j,g,rfl⟩:=Nj.mp i;have g:=List.mem_range.mp g;rw[aW hq a0]at g
  injection e with e1 e2
  injection e2 with e2 _
  subst e1;subst e2
  refine⟨_,_,⟨0,0,a,j+1,a0,MY _,⋯,⋯,rfl⟩,⟨0,j+1,a,c,a0,MY _,⋯,MY _,rfl⟩,q0R bc (sj hq),q0R bc (r8 hq),?_⟩;rw[d a0 (MY _) ⋯ ⋯,d a0 (MY _) ⋯ (MY _),all,<- Nat.mul_add]
  congr 1;omega
 ·obtain⟨m,i,e⟩:=Nj.mp hw
  unfold bM at i;obtain⟨j,g,rfl⟩:=Nj.mp i;have g:=List.mem_range.mp g;rw[hq.1]at g
  injection e with e1 e2
  injection e2 with e2 _
  subst e1;subst e2
  refine⟨_,_,⟨0,0,j+1,c,⋯,⋯,c0,MY _,rfl⟩,⟨j+1,0,a,c,⋯,MY _,c0,MY _,rfl⟩,q0R bc (sO hq),q0R bc (sP hq),?_⟩;rw[d ⋯ ⋯ c0 (MY _),d ⋯ (MY _) c0 (MY _),all,<- Nat.add_mul]
  congr 1;omega
 ·exact nomatch Mz.mp hw
structure ES(rs:Yaa)(nms:List (List Nat))(Sn:aB->Prop)(dn:NG)(tb:Tb):Prop where
 nd:(tb.map (·.1)).Nodup
 key:∀k v,aP tb k=some v->tx k.1∈dn/\k.2∈nms/\Dv rs k v/\1<=v
 bnd:∀k v,aP tb k=some v->∀q,Sn q->k.1=bc q->v+585<=1170*(bu q:Int)
 don:∀z∈dn,∃q,Sn q/\z=tx (bc q)
 tur:∀q,Sn q->tx (bc q)∈dn->∀t,t<8->tx (bc (turned q t))∈dn
 prt:∀q,Sn q->tx (bc q)∈dn->∀x∈rs,∀w∈bS x q,∀k∈w,tx k.1∈dn
 clo:∀q,Sn q->tx (bc q)∈dn->IU rs (aP tb) q
structure kZ(rs:Yaa)(nms:List (List Nat))(p:aB)(r c:Nat):Prop where
 hp:rect p r c
 r0:0<r
 c0:0<c
 r6:r<=6
 c6:c<=6
 ns:bL p
 gd:∀x∈rs,jP x
 nm:∀x∈rs,x.2.n∈nms
 n8:nms.length<=8
 r24:rs.length<=24
 few:Gu p r c
theorem kZ.turn3(E:kZ rs nms p r c){x:Nat×RV}(h:x∈qf rs):JD rs nms x:=by
 obtain⟨h1,h2⟩:=List.mem_filter.mp h;have h3:x.1=3:=by simpa using h2
 have g:=(E.gd x h1).good;exact⟨h1,⋯,g.c1,g.c9,g.t0,g.t7,E.nm x h1⟩
structure ut(rs:Yaa)(p:aB)(r c:Nat)(dn:NG)(q:aB):Prop where
 sq:bf p r c q
 fr:∀t,t<8->tx (bc (turned q t))∉dn
 pt:∀q',bf p r c q'->bu q'<bu q->tx (bc q')∈dn
theorem ut.parts{dn:NG}(E:kZ rs nms p r c)(N:ut rs p r c dn q){t:Nat}(ht:t<8){x:Nat×RV}(hx:x∈rs)(h3:x.1≠3){w:List Ky}(hw:w∈bS x (turned q t)){k:Ky}(hk:k∈w):∃q',bf p r c q'/\k.1=bc q'/\tx k.1∈dn:=by
 have g:=E.gd x hx;obtain⟨a,b,h1,h2,i,_⟩:=N.sq.rect E.hp;obtain⟨q',d,e,h⟩:=kT E.hp (N.sq.turned E.hp ht) g.good.t0 g.good.t7 hw hk;rcases h with h | h
 ·rw[h_ h1 h2 i]at h
  exact⟨q',d,e,by rw[e];exact N.pt q' d h⟩
 ·have:=g.k4
  omega
theorem ut.notIn{nms:List (List Nat)}{dn:NG}(N:ut rs p r c dn q){k:Ky}(h:tx k.1∈dn){t:Nat}(ht:t<8):k.1≠bc (turned q t):=λe=>N.fr t ht (by rw[<- e];exact h)
theorem tQ(hp:rect p r c)(r6:r<=6)(c6:c<=6)(h:bf p r c q):∃a b,fh q a b:=by
 obtain⟨a,b,h1,h2,d,h4,h5⟩:=h.rect hp;exact⟨a,b,h1,h2,⋯,d,⋯⟩
theorem ES.pta{Sn:aB->Prop}{dn:NG}(E:kZ rs nms p r c)(N:ut rs p r c dn q)(S:ES rs nms Sn dn tb):∀n,n<=8->D7 rs (eQ rs) q tb (pta rs (eQ rs) q tb n) n:=
 wg (a:=0) (c:=0) (λx hx=>(E.gd x hx).k4) (λt ht=>tQ E.hp E.r6 E.c6 (N.sq.turned E.hp ht)) λt ht x hx h3 w hw k hk t' ht'=>by
  obtain⟨_,_,_,h⟩:=N.parts E ht hx h3 hw hk;exact N.notIn (nms:=nms) h ht'
theorem sY(hp:rect p r c)(h:bf p r c q):1<=bu q:=by
 obtain⟨a,b,h1,h2,d,_⟩:=h.rect hp;unfold bu;rw[h1.1,aW h1 h2];exact Nat.mul_pos h2 d
set_option tactic.hygienic true in
set_option tactic.hygienic true in
theorem ES.start{Sn:aB->Prop}{dn:NG}{q:aB}{tb8:Tb}(E:kZ rs nms p r c)(Sb:∀q,bf p r c q->Sn q)(N:ut rs p r c dn q)(S:ES rs nms Sn dn tb)(PS:D7 rs (eQ rs) q tb tb8 8) :
  TI (qf rs) rs q nms (1170*bu q-1161) tb8.length tb8 tb8 (λk=>k∈CK q nms/\∃v,aP tb8 k=some v):=by
 have hcp:=sY E.hp N.sq;have new:∀k∈CK q nms,∀v,aP tb8 k=some v->Dv rs k v/\1<=v/\v<=((1170*bu q-1161:Nat):Int):=by
  intro k hk v hv;rcases PS.val k v hv with h | ⟨t,ht,x,hx,h3,w,hw,hc,rfl⟩
  ·obtain⟨t,ht,n,_,rfl⟩:=ki.mp hk
   exact q0Q (S.key _ v h).1 (N.fr t ht)
  ·have g:=(E.gd x hx).good
   have hst:=N.sq.turned E.hp ht;have g1:=g.c1;have g9:=g.c9;refine⟨EO hx (eN E.hp E.ns hst) hw hc λk hk u hu=>(S.key k u hu).2.2.1,?_⟩;rcases rW hw with rfl | ⟨k,rfl⟩ | ⟨k1,k2,rfl⟩
   ·injection hc with hc
    omega
   ·obtain⟨a,b,h1,h2,h4,_⟩:=hst.rect E.hp
    rcases rJ h1 h2 h4 hw (Mz.mpr rfl) with⟨t,l,b,y,k1,k2,k3,k4,k5,k6,k7⟩ | ⟨k1,_⟩
    ·exfalso
     unfold bS at hw
     split at hw
     ·split at hw
      ·exact nomatch Mz.mp hw
      ·exact nomatch hw
     ·obtain⟨_,_,e⟩:=Nj.mp hw;exact nomatch e
     ·obtain⟨_,_,e⟩:=Nj.mp hw;exact nomatch e
     ·rename_i y z0 z1 z2
      rcases hh:x.1 with _ | _ | _ | n
      ·exact q0Q hh z0
      ·exact q0Q hh z1
      ·exact q0Q hh z2
      ·omega
    ·have:=(E.gd x hx).k4
     omega
   ·obtain⟨u1,u2,e1,e2,rfl⟩:=vM hc
    obtain⟨a,b,h1,h2,h4,_⟩:=hst.rect E.hp;obtain⟨q1,q2,⟨t1,l1,b1,x1,m1,m2,m3,m4,rfl⟩,⟨t2,l2,b2,x2,n1,n2,n3,n4,rfl⟩,f1,f2,f3⟩:=EG h1 h2 h4 hw;rw[h_ (N.sq.rect E.hp).choose_spec.choose_spec.1 (N.sq.rect E.hp).choose_spec.choose_spec.2.1 (N.sq.rect E.hp).choose_spec.choose_spec.2.2.1]at f3;have o1:=S.bnd k1 u1 e1 _ (Sb _ (hst.cut E.hp h1 m1 m2 m3 m4)) f1;have o2:=S.bnd k2 u2 e2 _ (Sb _ (hst.cut E.hp h1 n1 n2 n3 n4)) f2;have p1:=(S.key k1 u1 e1).2.2.2;have p2:=(S.key k2 u2 e2).2.2.2;omega
 refine⟨PS.nd S.nd,v4.refl _,λ_ _=>rfl,λk hk v hv=>(new k hk v hv).1,λk hk v hv no=>q0Q ⟨hk,v,hv⟩ no,λk ho=>ho,λk hk v hv=>?_,Nat.le_add_right _ _⟩;have:=new k hk v hv;exact⟨this.2.1,⋯⟩
theorem ES.enter{Sn:aB->Prop}{dn dn':NG}{q:aB}{tb8 tb':Tb}(E:kZ rs nms p r c)(D:∀q,Sn q->vc q)(Sb:∀q,bf p r c q->Sn q)(N:ut rs p r c dn q)(S:ES rs nms Sn dn tb)(PS:D7 rs (eQ rs) q tb tb8 8)
  (h:TI (qf rs) rs q nms (1170*bu q-1161) tb8.length tb8 tb' (λ_=>False)) (hd:∀z,z∈dn'↔z∈dn\/∃t,t<8/\z=tx (bc (turned q t))):ES rs nms Sn dn' tb':=by
 have hcp:=sY E.hp N.sq;obtain⟨a0,b0,B,y,o,_⟩:=N.sq.rect E.hp;have U:∀t,t<8->vc (turned q t):=λt d=>eN E.hp E.ns (N.sq.turned E.hp d);have ck:∀k,k∉CK q nms->∀v,aP tb' k=some v->aP tb k=some v:=λk b v j=>by
  rw[h.out k b]at j;rcases PS.val k v j with e | ⟨t,d,x,C,_,w,_,_,rfl⟩
  ·exact e
  ·exact q0Q (ki.mpr ⟨t,d,_,E.nm x C,rfl⟩) b
 have O:∀k:Ky,tx k.1∈dn->aP tb' k=aP tb k:=λk b=>by
  have nc:∀t,t<8->k.1≠bc (turned q t):=λt d=>N.notIn (nms:=nms) b d;rw[h.out k λe=>by obtain⟨t,d,n,_,rfl⟩:=ki.mp e;exact nc t d rfl,PS.out k nc]
 have h64:=gR (CK q nms) tb';have hl:=tf q nms;have n8:=E.n8;have M:∀{i:aB},Sn i->tx (bc i)∈dn'->tx (bc i)∈dn\/∃t,t<8/\i=turned q t:=fun{i} l J=>by
  rcases(hd _).mp J with h | ⟨t,d,e⟩
  ·exact .inl h
  ·exact .inr ⟨t,d,(D _ l).inj (U t d) (cT e)⟩
 refine⟨h.nd,λk v j=>?_,λk v j i l e=>?_,λz J=>?_,λi l J t d=>?_,λi l J x C w G k b=>?_,λi l J x C w G v j=>?_⟩
 ·by_cases b:k∈CK q nms
  ·obtain⟨t,d,n,hn,rfl⟩:=ki.mp b
   exact⟨(hd _).mpr (.inr ⟨t,d,rfl⟩),hn,h.snd _ b v j,(h.pos _ b v j).1⟩
  ·obtain⟨k1,k2⟩:=S.key k v (ck k b v j)
   exact⟨(hd _).mpr (.inl k1),k2⟩
 ·by_cases b:k∈CK q nms
  ·have:=(h.pos _ b v j).2
   obtain⟨t,d,n,hn,rfl⟩:=ki.mp b;have Z:=(U t d).inj (D _ l) e;rw[<- Z,h_ B y o];omega
  ·exact S.bnd k v (ck k b v j) i l e
 ·rcases(hd z).mp J with h1 | ⟨t,d,rfl⟩
  ·exact S.don z h1
  ·exact⟨_,Sb _ (N.sq.turned E.hp d),rfl⟩
 ·rcases M l J with h1 | ⟨u,I,rfl⟩
  ·exact(hd _).mpr (.inl (S.tur i l h1 t d))
  ·exact(hd _).mpr (.inr ⟨after u t,gw I d,by rw[bN B y o I d]⟩)
 ·rcases M l J with h1 | ⟨u,I,rfl⟩
  ·exact(hd _).mpr (.inl (S.prt i l h1 x C w G k b))
  ·have g:=(E.gd x C).good
   by_cases Y:x.1=3
   ·rw[mQ ⋯]at G
    rw[Mz.mp G]at b;rw[Mz.mp b];have T:cW x.2.t.toNat<8:=lv (by have:=g.t0;have:=g.t7;omega);exact(hd _).mpr (.inr ⟨after u (cW x.2.t.toNat),gw I T,by rw[bN B y o I T]⟩)
   ·obtain⟨_,_,_,h5⟩:=N.parts E I C Y G b
    exact(hd _).mpr (.inl h5)
 ·rcases M l J with h1 | ⟨u,I,rfl⟩
  ·rw[jw (T':=aP tb) λk b=>O k (S.prt i l h1 x C w G k b)]at j
   rw[O (bc i,x.2.n) h1];exact S.clo i l h1 x C w G v j
  ·have g:=(E.gd x C).good
   by_cases Y:x.1=3
   ·have L:x.2.t.toNat<8:=by have:=g.t0;have:=g.t7;omega
    have T:cW x.2.t.toNat<8:=lv L;rw[mQ ⋯]at G;rw[Mz.mp G]at j;obtain⟨a,ha,rfl⟩:=pZ j;have R:=gw I T;have a1:=cP B y o u;have et:turned (turned q u) (cW x.2.t.toNat)=turned q (after u (cW x.2.t.toNat)):=bN B y o I T;rw[et]at ha
    by_cases b:(bc (turned q (after u (cW x.2.t.toNat))),x.2.o1)∈CK q nms
    ·obtain⟨v',l',Z⟩:=h.sett _ b a ha id x (List.mem_filter.mpr ⟨C,by simpa using Y⟩) rfl _ R rfl
     refine⟨v',⋯,?_⟩;have e2:turned q (after (after u (cW x.2.t.toNat)) x.2.t.toNat)=turned q u:=by
      rw[<- bN B y o R L,<- et,bN a1 (by split<;>assumption) (by split<;>assumption) T L,xT L,nn]
     unfold gJ at Z;rw[e2]at Z;exact Z
    ·exact q0Q (S.key _ a (ck _ b a ha)).1 (N.fr _ R)
   ·have hc:b9 (aP tb) x.2.c w=some v:=by
     rw[<- j];exact jw λk b=>by
      obtain⟨_,_,_,h5⟩:=N.parts E I C Y G b;exact(O k h5).symm
    obtain⟨m,hm⟩:=List.mem_iff_getElem?.mp C;obtain⟨v1,l1,e1⟩:=PS.all u I m (kO.mpr ⟨x,hm,Y⟩) x hm w G v hc;obtain⟨v2,l2,e2⟩:=h.le _ _ e1;exact⟨v2,Int.le_trans l2 l1,e2⟩
abbrev tM:Stmt:=eU 57
inductive oJ(vs:List V)(H:Hp)(Q:VK)(_E:XK):Prop
 |mk (d b:Addr) (tb:Tb) (k:Ky) (v:Int) (_:vs=[.ref d,.ref b,.int v]) (_:cj H d tb) (_:bp H b k) (_:tb.length<sizeLine) (_:∀H',cj H' d (dN tb k v)->a_ d H H'->Q (.bl (gS tb k v)) H')
theorem Dj:az ["told","key","cost"] ["told","key","cost"] (am tM):=by walk_at "c"
theorem Ch{f:Addr}(F:c8 K "lower" "lower" tM f fd)(nb:NB mg):↑aV 1 f fd ["told","key","cost"] oJ:=by
 have sc:=Dj;walk_at "f"
 ·obtain⟨d,b,tb,k,v,rfl,m,n,o,q⟩:=h
  have l:=m.told.get n;have j:=hr.units;have dW:gS tb k v=true->∀H2,H2=aD H d (.dT (dF (tb.map qr) (j_ k) (.int v)))->Q (.bl true) H2:=λa H2 e=>by
   have p:dN tb k v=qF tb k v:=by unfold dN;rw[q07 a]
   have:=q H2 (by rw[p,e,DV];exact ae) (by rw[e];exact(a_.of λ_ _ h=>h).put)
   rwa [a]at this
  have c:Bs H d (.ref b) (.int v) (aD H d (.dT (dF (tb.map qr) (j_ k) (.int v)))):=Bs.t m n (by rw[My];exact o);refine⟨_,(ad (bB (PW.pt (iQ (mH (ye (Nh (Nl (by decide:1<=64) _) j) (ak 1) (ak 0)) (by with_unfolding_all rfl)) (jk (aK (bC.m0 iy) (kR (Nh (Nl (by decide:1<=64) _) j) (ak 0) (ak 1) (λ_ _=>rfl)) (ak 2) (aZ _)))))
   (ai (aG fO))
   aO)
   (ad (tJ (Nh (Nl (by decide:1<=64) _) j) (ak 0) (ak 1) (ak 2) rfl)
   (ai (aG fO)))),?_⟩
  symm;refine⟨_,l,?_⟩;cases i:aP tb k with
  |none=>
   rw[q06 (by simp)];refine h1 _ _ ?_;ext;exact⟨_,c,dW (by unfold gS;rw[i]) _ rfl⟩
  |some u=>
   rw[i]at l;rw[q07 (by rfl)];refine⟨_,l,u,rfl,?_⟩
   by_cases g:u<=v
   ·rw[q07 g]
    have a:gS tb k v=false:=by unfold gS;rw[i];simp;omega
    have:=q H (by unfold dN;rw[a];exact m) (a_.of λ_ _ h=>h)
    rwa [a]at this
   ·rw[q06 g]
    refine h1 _ _ ?_;ext;exact⟨_,c,dW (by unfold gS;rw[i];simp;omega) _ rfl⟩
abbrev fF:Stmt:=eU 56
inductive io(R:RC)(CG CC:Addr)(vs:List V)(H:Hp)(Q:VK)(_E:XK):Prop
 |mk (g dx ln cu d:Addr) (sg st:Ny) (as:NC) (rs:Yaa) (ns:Ny) (p:aB) (r c:Nat) (tb:Tb) (_:vs=[.ref g,.ref ln,.ref cu,.ref d]) (_:cL R H CG dx g sg st as rs) (_:(∀r∈rs,jP r)) (_:H ln=some (.lst (vC ns))) (_:(∀n∈ns,n<rs.length)) (_:ns.length<=100) (_:eR CC H cu p) (_:fh p r c) (_:cj H d tb) (_:tb.length<=10000000) (_:∀H',cj H' d (HX rs ns p tb)->a_ d H H'->Q .non H')
theorem nN:az ["grammar","numbers","cuts","told","cost","number","way"] ["grammar","numbers","cuts","told"] (am fF):=by walk_at "c"
theorem nA{f:Addr}(F:c8 K "put_together" "put_together" fF f fd)(nb:NB mg)(rk:mR K R)(clC:iF K CC)(naC:FD K CC)(yar:↑ij 1 CG "rule" ["self","k"] (e_ R CG))(yba:↑df 6 "coming" ["grammar","numbers","cuts","told"] (sV R CG CC))(yap:↑df 1 "lower" ["told","key","cost"] oJ):↑aV 7 f fd ["grammar","numbers","cuts","told"] (io R CG CC):=by
 have sc:=nN;walk_at "f"
 ·obtain⟨g,dx,ln,cu,d,sg,st,as,a,ns,p,r,c,tb,rfl,hG,hg,a5,G,o,hC,hp,hT,htl,q⟩:=h
  have hu:=hr.units;refine⟨_,(ai (aX PassesOwn.never rfl (aR (aH yba (hr.mono nofun) rfl aM (aa (ak 0) (aa (ak 1) (aa (ak 2) (aa (ak 3) ac)))))) (fT (n:=3) rfl (aU (q02 4 sc.nd) (aU (q02 5 sc.nd) (aU (q02 6 sc.nd) du))))
   (ai (ba (aH yap (hr.mono nofun) rfl aM (aa (ak 3) (aa (bH (aa (bE (ak 2) rfl) (aa (bE (kW yar (hr.mono nofun) aM (ak 0) (aa (ak 5) ac)) rfl) ac))) (aa (ak 4) ac)))))))),?_⟩
  ext;refine⟨g,dx,ln,cu,d,sg,st,as,a,ns,p,r,c,aP tb,rfl,hG,hg,a5,G,o,hC,hp,hT.told,λl H1 hl hL M=>?_⟩;obtain⟨bs,hb,hA⟩:=hL;have u:cj H1 d tb:=hT.up M;have a9:=hG.up M;have b0:=hC.up M;have a0:=kg (T:=aP tb) hp (λr hr=>(hg r hr).k4) ns;have z:∀y∈ns.flatMap (cU (aP tb) a p),y.2.1∈ns:=λy O=>(rV O).1;have a4:HX a ns p tb=qU a p tb (ns.flatMap (cU (aP tb) a p)):=rfl;rw[a4]at q;generalize ns.flatMap (cU (aP tb) a p)=ys at hA a0 z q;have a7:=hA.1;refine⟨l,rfl,⟨_,aI.of hb⟩,?_⟩;refine bz (xs:=bs.map V.ref) (λi σ v=>a_ d H1 v/\cj v d (qU a p tb (ys.take i))/\i<=bs.length/\∃Y U S,σ=[some (V.ref g),some (V.ref ln),some (V.ref cu),some (V.ref d),Y,U,S]) ⟨a_.of λ_ _ h=>h,u,MZ _,_,_,_,rfl⟩ (λi σ v _ h=>aI.of ((h.1.kp u).lst hb)) ?_ ?_
  ·rintro i x σ v hx ⟨L,k,_,Y,U,S,rfl⟩
   rw[MA]at hx;obtain⟨b,I,rfl⟩:=M5.mp hx;have hi:=(Mw.mp I).1;obtain⟨y,O,a1⟩:=hA.get I;have kp:=L.kp u;obtain⟨lw,a8,_⟩:=a1.kp kp;obtain⟨j,m⟩:∃j,a[y.2.1]?=some j:=⟨_,Mv (G _ (z y (MB O)))⟩;have J:=a9.kp kp;obtain⟨dxc,lp,lb,la,a6,_⟩:=b0.kp kp;obtain⟨lk,pn,t0,ha,hkk,C,hN,hmm⟩:=id J;obtain⟨ra,D⟩:∃b,as[y.2.1]?=some b:=⟨_,Mv (by rw[C.1];exact(Mw.mp m).1)⟩;obtain⟨rdx,rl,a3,_⟩:=C.2 _ ra j D m;ext;refine⟨_,cy.of a8,rfl,_,_,rfl,_,_,rfl,_,_,rfl,rfl,?_⟩;refine⟨_,_,_,a6,clC,naC.2.1,_,rfl,dx,_,ha,rfl,g,dx,sg,st,as,a,y.2.1,ra,rfl,J,D,?_⟩;refine⟨ra,rfl,_,_,_,a3,(rk.icls j.1).cl,(rk.name j.1).1,_,(jq rl j.2 j.1).1,ar nofun,λtp B=>?_⟩;have hps:=(lI a p (ys.take i) tb).len;have htk:(ys.take i).length<=ys.length:=by rw[Nf];omega
   refine⟨d,tp,qU a p tb (ys.take i),(bc p,j.2.n),y.1,rfl,k.up (af B),ae,?_,λH2 a2 Z=>⟨L.trans ((a_.of (af B)).trans Z),?_,hi⟩⟩
   ·have:=q0V;omega
   ·have e:qU a p tb (ys.take (i+1))=dN (qU a p tb (ys.take i)) (bc p,j.2.n) y.1:=by
     unfold qU;rw[q0E,O,List.foldl_append];show dN _ (bc p,mB a y.2.1) y.1=_;rw[show mB a y.2.1=j.2.n by unfold mB;rw[m]]
    rw[e];exact a2
  ·rintro σ v ⟨L,k,_,Y,U,S,rfl⟩
   rw[My,a7,Nd]at k;exact q v k ((a_.of M).trans L)
abbrev ua:Stmt:=eU 22
inductive vg(vs:List V)(H:Hp)(Q:VK)(_E:XK):Prop
 |mk (t u:Nat) (_:vs=[.int (t:Int),.int (u:Int)]) (_:t<8) (_:u<8) (_:Q (.int (after t u:Nat)) H)
theorem BI:az ["t","u"] ["t","u"] (am ua):=by walk_at "c"
theorem B9{f:Addr}(F:c8 K "after" "after" ua f fd):↑aV 1 f fd ["t","u"] vg:=by
 have sc:=BI;walk_at "f"
 ·obtain⟨t,u,rfl,ht,hu,q⟩:=h
  refine⟨_,(ad (bB (og sH (pv 1) aj (aZ _))
   (ai (aG (aF bY (aF dz (aF b7 (pv 0) aj) aj) (aF bO (aF bY (pv 0) (pv 1)) aj))))
   aO)
   (ai (aG (aF bY (aF dz (aF lP aj (aF b7 (pv 0) aj)) aj) (aF bO (aF lP (pv 1) (pv 0)) aj))))),?_⟩
  ext
  split
  ·have e:((after t u:Nat):Int)=(t:Int)/4*4+((t:Int)+u)%4:=by unfold after;rw[q07 ⋯];omega
   rw[<- e];exact q
  ·have e:((after t u:Nat):Int)=(1-(t:Int)/4)*4+((u:Int)-t)%4:=by unfold after;rw[q06 ⋯];omega
   rw[<- e];exact q
theorem aL.app{β:Type}{A:Hp->Addr->β->Prop}:∀{bs2:NC} {ys2:List β} {bs:NC} {ys:List β},aL A H bs ys->aL A H bs2 ys2->aL A H (bs++bs2) (ys++ys2)
 | [],[],bs,ys,h,_=>by rw[Na,Na];exact h
 | [],_::_,_,_,_,h2=>nomatch h2.1
 |_::_,[],_,_,_,h2=>nomatch h2.1
 |b::bs2,y::ys2,bs,ys,h,h2=>by
  have h3:aL A H bs2 ys2:=⟨Nat.succ.inj h2.1,λi c z e1 e2=>h2.2 (i+1) c z e1 e2⟩;have:=aL.app (h.snoc (h2.2 0 b y rfl rfl)) h3
  rwa [Nb,Nb]at this
theorem BV{H:Hp}{Q:VK}{neg:Bool}(ha:H a=some (.lst xs))(hb:H b=some (.lst []))(q:Q (.bl (xs.isEmpty != neg)) H):Hl K neg (.ref a) (.ref b) H Q:=by
 cases xs with
 |nil=>
  refine .inl ⟨[],by unfold Dt.deps;omega,.inl ⟨?_,?_⟩,by simpa using q⟩
  ·unfold kt;exact⟨a,_,rfl,aI.of ha,by unfold dM;rfl⟩
  ·unfold kt;exact⟨b,_,rfl,aI.of hb,by unfold dM;rfl⟩
 |cons x xs=>exact .inr ⟨a,b,_,_,rfl,rfl,aI.of ha,aI.of hb,by simp,by simpa using q⟩
def fj(q:aB):List Str:=(List.range 8).map λt=>tx (bc (turned q t))
def jL(q:aB)(ns:List (List Nat))(tb:Tb)(n:Nat):List Ky:=((List.range n).flatMap λt=>ns.map λn=>(bc (turned q t),n)).filter λk=>(aP tb k).isSome
theorem oI(q:aB)(ns:List (List Nat))(tb:Tb)(n:Nat):jL q ns tb (n+1)=jL q ns tb n++ns.filterMap λm=>if(aP tb (bc (turned q n),m)).isSome=true then some (bc (turned q n),m) else none:=by
 unfold jL;rw[q0M,List.flatMap_append,List.filter_append]
 congr 1
 rw[show([n].flatMap λt=>ns.map λn=>(bc (turned q t),n))=ns.map λm=>(bc (turned q n),m) by simp]
 induction ns with
 |nil=>rfl
 |cons m ns ih=>
  rw[M8,List.filter_cons,q0U];cases h:(aP tb (bc (turned q n),m)).isSome with
  |true=>simp only[q07];rw[ih]
  |false=>simp only[q0Z,if_false];exact ih
theorem mP(q:aB)(ns:List (List Nat))(tb:Tb):∀n,(jL q ns tb n).length<=n*ns.length
 |0=>by simp[jL]
 |n+1=>by
  rw[oI,MX,Nat.add_mul,Nat.one_mul];exact Nat.add_le_add (mP q ns tb n) (List.length_filterMap_le _ _)
theorem sr{ns:List (List Nat)}{k:Ky}:k∈jL q ns tb 8↔k∈CK q ns/\∃v,aP tb k=some v:=by
 unfold jL;rw[List.mem_filter,Option.isSome_iff_exists];rfl
theorem vm{z:Str}:∀{ts:NG},z∈ts->∃j:Nat,ts[j]?=some z/\∀(m:Nat) (y:Str),m<j->ts[m]?=some y->y≠z
 | [],h=>nomatch h
 |x::ts,h=>by
  by_cases e:x=z
  ·exact⟨0,by rw[e];rfl,λm y hm=>q0Q hm (Nat.not_lt_zero _)⟩
  ·rcases MQ.mp h with h | h
   ·exact q0Q h.symm e
   ·obtain⟨j,h1,h2⟩:=vm h
    refine⟨j+1,h1,λm y hm hy=>?_⟩;cases m with
    |zero=>rw[List.getElem?_cons_zero]at hy;cases hy;exact e
    |succ m=>exact h2 m y ⋯ hy
theorem GC{t:Nat}{z:Str}(h:(fj q)[t]?=some z):t<8/\z=tx (bc (turned q t)):=by
 unfold fj at h;rw[MA]at h;obtain⟨x,a,rfl⟩:=M5.mp h;have b:=(Mw.mp a).1;rw[q0J]at b;rw[List.getElem?_range b]at a;cases a;exact⟨b,rfl⟩
theorem CD{t:Nat}(h:t<8):(fj q)[t]?=some (tx (bc (turned q t))):=by
 unfold fj;rw[MA,List.getElem?_range h];rfl
inductive JL(H:Hp)(q:aB)(ns:List (List Nat))(tb0:Tb)(lr lt ln d l:Addr)(i:Nat)(H':Hp):St->Prop
 |mk (bs:NC) (x5 x6 x7 x8 x9:Option V) (_:ax H H') (_:H' l=some (.lst (bs.map V.ref))) (_:aL bp H' bs (jL q ns tb0 i)):JL H q ns tb0 lr lt ln d l i H' [some (V.ref lr),some (V.ref lt),some (V.ref ln),some (V.ref d),some (V.ref l),x5,x6,x7,x8,x9]
inductive JJ(H:Hp)(trs rs:Yaa)(q:aB)(ns:List (List Nat))(M L0:Nat)(tb0:Tb)(lr lt ln d:Addr)(m:Nat)(H':Hp):St->Prop
 |mk (tb:Tb) (chs:List Ky) (l2:Addr) (cs:NC) (x5 x6 x7 x8 x9:Option V) (_:a_ d H H') (_:cj H' d tb) (_:H' l2=some (.lst (cs.map V.ref))) (_:aL bp H' cs chs) (_:TI trs rs q ns M L0 tb0 tb (λk=>k∈chs)) (_:chs.length<=8000000) (_:m=GH (CK q ns) (M+576) tb+(if chs=[] then 0 else 1)):JJ H trs rs q ns M L0 tb0 lr lt ln d m H' [some (V.ref lr),some (V.ref lt),some (V.ref ln),some (V.ref d),some (V.ref l2),x5,x6,x7,x8,x9]
structure JV(trs rs:Yaa)(q:aB)(ns:List (List Nat))(M L0:Nat)(tb0 tb:Tb)(all:List Ky)(d l2 lw:Addr)(cs:NC)(H H':Hp)(i:Nat)(tb5:Tb)(ws:NC)(lws:List Ky):Prop where
 sx:a_ d H H'
 l:H' l2=some (.lst (cs.map V.ref))
 cA:aL bp H' cs all
 T:cj H' d tb5
 w:H' lw=some (.lst (ws.map V.ref))
 wA:aL bp H' ws lws
 I:TI trs rs q ns M L0 tb0 tb5 (λk=>k∈all.drop i\/k∈lws)
 m:GH (CK q ns) (M+576) tb5+lws.length<=GH (CK q ns) (M+576) tb
inductive JQ(trs rs:Yaa)(q:aB)(ns:List (List Nat))(M L0:Nat)(tb0 tb:Tb)(all:List Ky)(lr lt ln d l2 lw:Addr)(cs:NC)(H H':Hp)(i:Nat):St->Prop
 |mk (tb5:Tb) (ws:NC) (lws:List Ky) (x5 x7 x8 x9:Option V) (_:JV trs rs q ns M L0 tb0 tb all d l2 lw cs H H' i tb5 ws lws):JQ trs rs q ns M L0 tb0 tb all lr lt ln d l2 lw cs H H' i [some (V.ref lr),some (V.ref lt),some (V.ref ln),some (V.ref d),some (V.ref l2),x5,some (V.ref lw),x7,x8,x9]
inductive JU(trs rs:Yaa)(q:aB)(ns:List (List Nat))(M L0:Nat)(tb0 tb:Tb)(all:List Ky)(lr lt ln d l2 lw:Addr)(cs:NC)(H:Hp)(i t:Nat)(k:Ky)(v:Int)(H':Hp)(j:Nat):St->Prop
 |mk (tb5:Tb) (ws:NC) (lws:List Ky) (x8 x9:Option V) (_:JV trs rs q ns M L0 tb0 tb all d l2 lw cs H H' i tb5 ws lws) (_:aP tb5 k=some v) (_:∀r∈trs.take j,r.2.o1=k.2->∃v',v'<=v+r.2.c/\aP tb5 (gJ q r t)=some v'):JU trs rs q ns M L0 tb0 tb all lr lt ln d l2 lw cs H i t k v H' j [some (V.ref lr),some (V.ref lt),some (V.ref ln),some (V.ref d),some (V.ref l2),some (V.str (tx k.1)),some (V.ref lw),some (V.str (tx k.2)),x8,x9]
abbrev hJ:Stmt:=eU 58
theorem vS{tb:TS}{σ:St}(h:∀tb',tb'=tb->xx c tb' D σ H):xx c tb D σ H:=h tb rfl
theorem AE{n:Nat}(h:n<=8000000):n<sizeLine:=by have:=q0V;omega
inductive jM(R:RC)(vs:List V)(H:Hp)(Q:VK)(_E:XK):Prop
 |mk (lr lt ln d:Addr) (as:NC) (trs rs:Yaa) (q:aB) (a c:Nat) (ns:List (List Nat)) (M L0:Nat) (tb0:Tb) (_:vs=[.ref lr,.ref lt,.ref ln,.ref d]) (_:H lr=some (.lst (as.map V.ref))) (_:bX R H as trs) (_:H lt=some (.lst ((fj q).map V.str))) (_:H ln=some (.lst (ns.map λn=>V.str (tx n)))) (_:cj H d tb0) (_:rect q a c) (_:0<a) (_:0<c) (_:(∀t,t<8->vc (turned q t))) (_:ns.length<=8) (_:(∀r∈trs,JD rs ns r/\r.1=3)) (_:TI trs rs q ns M L0 tb0 tb0 (λk=>k∈CK q ns/\∃v,aP tb0 k=some v)) (_:M<=100000) (_:L0<=10000000) (_:∀H' tb',cj H' d tb'->TI trs rs q ns M L0 tb0 tb' (λ_=>False)->a_ d H H'->Q .non H')
theorem qp:az ["rules","texts","names","told","changed","text","lowered","name","rule","key"] ["rules","texts","names","told"] (am hJ):=by walk_at "c"
theorem qx{f:Addr}(F:c8 K "turn_about" "turn_about" hJ f fd)(nb:NB mg)(rk:mR K R)(ybf:↑df 1 "after" ["t","u"] vg)(yap:↑df 1 "lower" ["told","key","cost"] oJ):↑aV 2 f fd ["rules","texts","names","told"] (jM R):=by
 have sc:=qp;walk_at "f"
 ·obtain⟨lr,lt,ln,d,as,trs,rs,q,a,c,ns,M,L0,tb0,rfl,hlr,hrs,hlt,hln,hT,hq,a0,c0,hO,h8,hR,hTI,hM,hL0,qq⟩:=h
  have hu:=hr.units;refine⟨_,(ad (q01 4 sc.nd (bh ac))
   (ad (aX PassesOwn.never rfl (aR (ak 1)) (au (i:=5) sc.nd rfl (Or.inr rfl))
   (ai (ba (dU PySem.F.plainAttrs_list PySem.F.slot_list_extend PySem.F.type_list_extend lT (ak 4) (aa (bW ["name"] [5,3] rfl (bv.of (by kernel_rfl)) (by kernel_rfl) (aR (ak 2))
    (λ_ _ _ _=>(au (i:=0) (by show(["name","text","told"]:List Str).Nodup;decide +kernel) rfl (Or.inl rfl))) (λ_ _ _ _=>(nY (mH (ye (Nh (Nl (by decide:1<=64) _) hu) (bH (aa (ak 1) (aa (ak 0) ac))) (ak 2)) (by with_unfolding_all rfl)))) (λ_ _ _ _=>(bH (aa (ak 1) (aa (ak 0) ac))))) ac)))))
   (ai (DZ PassesOwn.never (aK (Gs hu) (ak 4) (bh ac) (aZ _)) (ad (q01 6 sc.nd (bh ac))
   (ad (aX PassesOwn.never rfl (aR (ak 4)) (fT (n:=2) rfl (aU (au (i:=5) sc.nd rfl (Or.inr rfl)) (aU (q02 7 sc.nd) du)))
   (ai (aX PassesOwn.never rfl (aR (ak 0)) (q02 8 sc.nd)
   (ad (q01 9 sc.nd (bH (aa (aN bF (ak 1) (aH ybf (hr.mono nofun) rfl aM (aa (dU PySem.F.plainAttrs_list PySem.F.slot_list_index PySem.F.type_list_index AV (ak 1) (aa (ak 5) ac)) (aa (bE (ak 8) rfl) ac))) (λ_ _=>rfl)) (aa (bE (ak 8) rfl) ac))))
   (ai (bB (PW.pt (iQ (aK gI (bE (ak 8) rfl) (ak 7) (aZ _)) (jk (cR (aH yap (hr.mono nofun) rfl aM (aa (ak 3) (aa (ak 9) (aa (aF (bC.m0 bY) (kR (Nh (Nl (by decide:1<=64) _) hu) (ak 3) (bH (aa (ak 5) (aa (ak 7) ac))) (λ_ _=>rfl)) (bE (ak 8) rfl)) ac)))) λ_=>rfl))))
   (ai (ba (dU PySem.F.plainAttrs_list PySem.F.slot_list_append PySem.F.type_list_append cg (ak 6) (aa (ak 9) ac))))
   aO))))))
   (ai (q01 4 sc.nd (ak 6))))))))),?_⟩
  symm;refine⟨MZ _,λl hl=>h1 _ _ ?_⟩;clear h1;generalize z0:aD H l _=H1;obtain⟨s1,e1⟩:=i4 hl z0;symm;have hT1:cj H1 d tb0:=hT.up s1;have hcl:(fj q).length=8:=by unfold fj;rw[My,q0J]
  refine⟨⟨_,aI.of (s1 _ _ hlt)⟩,?_⟩;refine bz (xs:=(fj q).map V.str) (λi σ H'=>JL H q ns tb0 lr lt ln d l i H' σ) (.mk [] _ _ _ _ _ s1 e1 aL.nil) (λi σ H' _ h=>by cases h with | mk _ _ _ _ _ _ s=>exact aI.of (s _ _ hlt)) ?_ ?_
  ·rintro i x σ H' hx ⟨bs,x5,x6,x7,x8,x9,sm,hb,hA⟩
   rw[MA]at hx;obtain⟨z,hz,rfl⟩:=M5.mp hx;have hi:i<8:=by have:=(Mw.mp hz).1;omega
   have hz':z=tx (bc (turned q i)):=by
    unfold fj at hz;rw[MA,List.getElem?_range hi]at hz;cases hz;rfl
   subst hz';ext;refine⟨.inl ⟨rfl,_,aI.of hb⟩,⟨_,aI.of (sm _ _ hln)⟩,?_⟩;refine ve bp bp.up (as:=ns) (emb:=λn=>V.str (tx n)) (f:=λn=>if(aP tb0 (bc (turned q i),n)).isSome=true then some (bc (turned q i),n) else none) (λσ=>∃x,σ=[x,some (V.str (tx (bc (turned q i)))),some (V.ref d)]) ⟨_,rfl⟩ (λH2 s2=>aI.of (s2 _ _ (sm _ _ hln))) ⋯ ?_ ?_
   ·rintro j n hn σ H2 M1 M0 ⟨x0,rfl⟩ s2 k1 k0
    have hT2:cj H2 d tb0:=(hT.up sm).up s2;ext;refine⟨ar nofun,λtp htp=>?_⟩;generalize z0:aD H2 tp _=H3;obtain⟨s3,(hk:bp H3 tp (bc (turned q i),n))⟩:=i4 htp z0;have hg:=(hT2.up s3).told.get hk;refine⟨_,hg,?_⟩;cases hv:aP tb0 (bc (turned q i),n) with
    |none=>
     rw[q06 (by simp)];exact k0 _ _ (by simp[hv]) (s2.trans s3) s3 ⟨_,rfl⟩
    |some v=>
     rw[q07 (by rfl)];exact⟨ar nofun,λt2 ht2=>k1 t2 (bc (turned q i),n) _ _ (by simp[hv]) ae (s2.trans (s3.trans (af ht2))) (s3.trans (af ht2)) ⟨_,rfl⟩⟩
   ·intro bs2 H2 s2 hA2 l2 hl2
    generalize z0:aD H2 l2 _=H3;obtain⟨s3,e3⟩:=i4 hl2 z0;have hb3:=s3 _ _ (s2 _ _ hb);have n1:=hA.1;have n2:=hA2.1;have n3:=mP q ns tb0 i;have n4:=List.length_filterMap_le (λn=>if(aP tb0 (bc (turned q i),n)).isSome=true then some (bc (turned q i),n) else none) ns;have n5:i*ns.length<=8*8:=Nat.mul_le_mul ⋯ h8;refine⟨_,hb3,_,e3,by rw[My,My];exact ar ⋯,?_⟩;refine .mk (bs++bs2) _ _ _ _ _ (cM ((sm.trans s2).trans s3) hl) (by rw[ae,MN]) ?_;rw[oI];exact aL.app (hA.mono λb y _ _ h=>((h.up s2).up s3).put hb3) (hA2.mono λb y _ _ h=>(h.up s3).put hb3)
  ·rintro σ H' ⟨bs,x5,x6,x7,x8,x9,sm,hb,hA⟩
   refine h1 _ _ ?_;rw[My,hcl]at hA;ext;have hTI0:=hTI.op (op':=λk=>k∈jL q ns tb0 8) (λk hk=>sr.mp hk) (λk v ho no _=>q0Q (sr.mpr ho) no);have hch:(jL q ns tb0 8).length<=8*8:=M9 (mP q ns tb0 8) (Nat.mul_le_mul_left _ h8);have hT':cj H' d tb0:=hT.up sm;refine vS λtw etw=>?_;refine⟨λm σ H2=>JJ H trs rs q ns M L0 tb0 lr lt ln d m H2 σ,⟨_,.mk tb0 _ l bs _ _ _ _ _ (a_.of sm) hT' hb hA hTI0 ⋯ rfl⟩,?_⟩;rintro m σ H2 ⟨tb,chs,l2,cs,y5,y6,y7,y8,y9,sx,hT2,hc2,hcA,hI,hcl2,hm⟩;ext;refine⟨MZ _,λlz hlz=>?_⟩;generalize z0:aD H2 lz _=H3;obtain⟨s3,e3⟩:=i4 hlz z0;refine BV (s3 _ _ hc2) e3 ⟨_,rfl,?_⟩;cases chs with
   |nil=>
    have:cs=[]:=Ni.mp hcA.1;subst this;rw[q06 (by simp)];exact qq H3 tb (hT2.up s3) (hI.op (λk hk=>hk.elim) (λk v ho _ _=>nomatch ho)) (sx.then s3)
   |cons ch chs=>
    have hne:cs≠[]:=λe=>by rw[e]at hcA;exact nomatch hcA.1
    rw[q07 (by cases cs with | nil=>exact q0Q rfl hne | cons _ _=>rfl)];rw[etw];generalize hall:ch::chs=all at hcA hI hcl2 hm;have ybE:all≠[]:=λe=>nomatch hall.trans e;rw[q06 ybE]at hm;refine⟨_,λσ' H' h=>h,?_⟩;have hmu:=hI.mu h8;have hmu2:(M+577)*64<=8000000:=by omega
    have hT3:cj H3 d tb:=hT2.up s3;have sx3:=sx.then s3;have hc3:=s3 _ _ hc2;have hcA3:=hcA.mono λb y _ _ (h:bp H2 b y)=>h.up s3;symm;refine⟨MZ _,λlw hlw=>h1 _ _ ?_⟩;clear h1;have s4:=af (o:=.lst []) hlw;have e4:aD H3 lw (.lst []) lw=some (.lst []):=ae;have hl2w:l2≠lw:=aA hc3 hlw;have hlw0:∀o,H lw=some o->lw=d:=λo h=>by
     by_cases e:lw=d
     ·exact e
     ·have:=sx3 lw o e h
      rw[hlw]at this;cases this
    have hlwd:lw≠d:=λe=>by
     rw[e]at hlw;rw[show H3 d=_ from hT3]at hlw;cases hlw
    generalize aD H3 lw (.lst [])=H4 at s4 e4 ⊢;symm;refine⟨⟨_,aI.of (s4 _ _ hc3)⟩,?_⟩;refine bz (xs:=cs.map V.ref) (λi σ H5=>JQ trs rs q ns M L0 tb0 tb all lr lt ln d l2 lw cs H H5 i σ) ?_ (λi σ H5 _ h=>by cases h with | mk _ _ _ _ _ _ _ h=>exact aI.of h.l) ?_ ?_
    ·exact .mk tb [] [] _ _ _ _ ⟨sx3.then s4,s4 _ _ hc3,hcA3.mono λb y _ _ h=>h.up s4,hT3.up s4,e4,aL.nil,hI.op (λk hk=>hk.elim id λz=>nomatch z) (λk v ho no _=>q0Q (.inl ho) no),MY _⟩
    ·rintro i x σ H5 hx ⟨tb5,ws,lws,z5,z7,z8,z9,h5⟩
     rw[MA]at hx;obtain⟨cb,hcb,rfl⟩:=M5.mp hx;have hi:=(Mw.mp hcb).1;obtain⟨k,hk,hkb⟩:=h5.cA.get hcb;have ot:=(Mw.mp hk).1;have hdr:all.drop i=k::all.drop (i+1):=by
      rw[q0T ot];rw[Mv ot]at hk;cases hk;rfl
     obtain⟨hkC,v,hv⟩:=h5.I.opk k (.inl (by rw[hdr];exact q0B ..));obtain⟨t1,ht1,n1,hn1,ek⟩:=ki.mp hkC;obtain⟨t,hti,hfirst⟩:=vm (z:=tx k.1) (MB (show(fj q)[t1]?=some (tx k.1) by rw[CD ht1,ek]));obtain⟨ht,ezt⟩:=GC hti;have ekt:k.1=bc (turned q t):=cT ezt;have kp5:=h5.sx.kp hT;ext;refine⟨_,cy.of hkb,rfl,_,_,rfl,_,_,rfl,rfl,⟨_,aI.of (kp5.lst hlr)⟩,?_⟩;refine bz (xs:=as.map V.ref) (λj σ H6=>JU trs rs q ns M L0 tb0 tb all lr lt ln d l2 lw cs H i t k v H6 j σ) (.mk tb5 ws lws _ _ h5 hv (λr hr=>nomatch hr)) (λj σ H6 _ h=>by cases h with | mk _ _ _ _ _ h=>exact aI.of ((h.sx.kp hT).lst hlr)) ?_ ?_
     ·rintro j x σ H6 hx ⟨tb6,ws6,lws6,y8,y9,⟨sx6,hl6,hcA6,hT6,hw6,hwA6,hI6,hm6⟩,hv6,hs6⟩
      rw[MA]at hx;obtain⟨ra,hra,rfl⟩:=M5.mp hx;have hj:=(Mw.mp hra).1;obtain⟨r,hr⟩:∃r,trs[j]?=some r:=⟨_,Mv (by rw[<- hrs.1];exact hj)⟩;obtain⟨r3,rk3⟩:=hR r (MB hr);have kp6:=sx6.kp hT;obtain⟨rdx,rl,hrb,_⟩:=(hrs.kp kp6).2 j ra r hra hr;rw[rk3]at hrb;have hrb':H6 ra=some (.ins R.ct rdx (FJ r.2.n r.2.c rl r.2.o1 r.2.t)):=hrb;have hu8:r.2.t.toNat<8:=by have:=r3.t0;have:=r3.t7;omega
      have hat:=gw ht hu8;refine al λN1 h1=>?_;have hlt6:H6 lt=some (.lst ((fj q).map V.str)):=kp6.lst hlt;ext;refine⟨.inl ⟨rfl,_,aI.of hlt6⟩,fj q,hlt6,t,hti,hfirst,_,_,_,hrb',rk.i3.cl,rk.a3.2.2.2.2,_,rfl,t,r.2.t.toNat,by rw[Nq r3.t0],ht,hu8,_,rfl,(fj q).map V.str,aI.of hlt6,_,bJ (by rw[MA,CD hat];rfl),_,_,_,hrb',rk.i3.cl,rk.a3.1,_,rfl,ar nofun,λtp htp=>h1 _ _ ?_⟩;clear h1;have s7:=af (o:=.tup [V.str (tx (bc (turned q (after t r.2.t.toNat)))),V.str (tx r.2.n)]) htp;have hk7:bp (aD H6 tp (.tup [V.str (tx (bc (turned q (after t r.2.t.toNat)))),V.str (tx r.2.n)])) tp (gJ q r t):=ae;change zU _ _ _ _ _ (aD H6 tp (.tup [V.str (tx (bc (turned q (after t r.2.t.toNat)))),V.str (tx r.2.n)]));generalize aD H6 tp (.tup [V.str (tx (bc (turned q (after t r.2.t.toNat)))),V.str (tx r.2.n)])=H7 at s7 hk7 ⊢;have hT7:=hT6.up s7;have hrb7:=s7 _ _ hrb';ext;have htk:trs.take (j+1)=trs.take j++[r]:=by rw[q0E,hr];rfl
      have hwA7:=hwA6.mono λb y _ _ (h:bp H6 b y)=>h.up s7;have hcA7:=hcA6.mono λb y _ _ (h:bp H6 b y)=>h.up s7;refine⟨_,_,_,hrb7,rk.i3.cl,rk.a3.2.2.2.1,_,rfl,rfl,?_⟩
      by_cases e:r.2.o1=k.2
      ·rw[q07 (by rw[e])]
       refine⟨ar nofun,λtq htq=>?_⟩;generalize z0:aD H7 tq _=H8;obtain⟨s8,(hk8:bp H8 tq k)⟩:=i4 htq z0;have hT8:cj H8 d tb6:=hT7.up s8;have hg8:=hT8.told.get hk8;rw[hv6]at hg8;have h64:=hI6.len64 h8;have ek2:(bc (turned q t),r.2.o1)=k:=by rw[<- ekt,e]
       obtain⟨hI9,hm9⟩:=hI6.low hq a0 c0 hO h8 r3 ht (v:=v) (by rw[ek2];exact hkC) (by rw[ek2];exact hv6);refine⟨_,hg8,_,_,_,s8 _ _ hrb7,rk.i3.cl,rk.a3.2.1,_,rfl,v,rfl,r.2.c,rfl,d,tp,tb6,gJ q r t,v+r.2.c,rfl,hT8,hk7.up s8,by have:=q0V;omega,λH9 hT9 sx9=>⟨_,rfl,?_⟩⟩;have kp9:=sx9.kp hT8;have hv9:aP (dN tb6 (gJ q r t) (v+r.2.c)) k=some v:=by
        rw[jp]
        split
        ·rename_i hc
         obtain⟨hc1,hc2⟩:=hc;unfold gS at hc2;rw[<- hc1,hv6]at hc2;have h3:v+r.2.c<v:=by simpa using hc2
         have:=r3.c1;omega
        ·exact hv6
       have hs9:∀r'∈trs.take (j+1),r'.2.o1=k.2->∃v',v'<=v+r'.2.c/\aP (dN tb6 (gJ q r t) (v+r.2.c)) (gJ q r' t)=some v':=by
        intro r' hr' e';rw[htk]at hr';rcases MO.mp hr' with hr' | hr'
        ·obtain⟨v1,l1,e1⟩:=hs6 r' hr' e'
         obtain⟨v2,l2,e2⟩:=wX tb6 (gJ q r t) (v+r.2.c) _ _ e1;exact⟨v2,Int.le_trans l2 l1,e2⟩
        ·rw[Mz.mp hr']
         exact zN _ _ _
       have sx9':=(sx6.then (s7.trans s8)).trans sx9;have hl9:=kp9.lst (s8 _ _ (s7 _ _ hl6));have hw9:=kp9.lst (s8 _ _ (s7 _ _ hw6));have hcA9:=hcA7.mono λb y _ _ (h:bp H7 b y)=>(h.up s8).kp kp9;have hwA9:=hwA7.mono λb y _ _ (h:bp H7 b y)=>(h.up s8).kp kp9;have hk9:=(hk7.up s8).kp kp9;cases hlb:gS tb6 (gJ q r t) (v+r.2.c) with
       |false=>
        rw[hlb]at hI9 hm9;rw[q06 (by simp)];refine .mk _ ws6 lws6 _ _ ⟨sx9',hl9,hcA9,hT9,hw9,hwA9,hI9.op (λx hx=>.inl hx) (λx w ho no _=>?_),by simp at hm9;omega⟩ hv9 hs9;exact q0Q (ho.elim id λz=>nomatch z.1) no
       |true=>
        rw[hlb]at hI9 hm9;rw[q07 rfl];have hwl:=hwA6.1;simp only[q07]at hm9;refine⟨.inl ⟨rfl,_,aI.of hw9⟩,_,hw9,by rw[My];exact AE ⋯,.mk _ (ws6++[tp]) (lws6++[gJ q r t]) _ _ ⟨λb o hb h=>?_,?_,?_,?_,?_,(hwA9.mono λb y _ _ h=>h.put hw9).snoc (hk9.put hw9),hI9.op (λx hx=>?_) (λx w ho no _=>?_),?_⟩ hv9 hs9⟩
        ·rw[aq (show b≠lw from λz=>hb (z.trans (hlw0 o (z▸h))))];exact sx9' b o hb h
        ·rw[aq hl2w];exact hl9
        ·exact hcA9.mono λb y _ _ h=>h.put hw9
        ·show aD H9 lw _ d=_
         rw[aq (Ne.symm hlwd)];exact hT9
        ·rw[ae,MN];rfl
        ·rcases hx with hx | hx
         ·exact .inl (.inl hx)
         ·rcases MO.mp hx with hx | hx
          ·exact .inl (.inr hx)
          ·exact .inr ⟨rfl,Mz.mp hx⟩
        ·refine q0Q ?_ no
         rcases ho with(ho | ho) | ho
         ·exact .inl ho
         ·exact .inr (q0D _ ho)
         ·exact .inr (q0C _ (Mz.mpr ho.2))
        ·rw[MX,q0Y];omega
      ·rw[q06 (λh=>e (cT (by injection h)))]
       refine .mk tb6 ws6 lws6 _ _ ⟨sx6.then s7,s7 _ _ hl6,hcA7,hT7,s7 _ _ hw6,hwA7,hI6,hm6⟩ hv6 λr' hr' e'=>?_;rw[htk]at hr';rcases MO.mp hr' with hr' | hr'
       ·exact hs6 r' hr' e'
       ·rw[Mz.mp hr']at e'
        exact q0Q e' e
     ·rintro σ H6 ⟨tb6,ws6,lws6,y8,y9,h6,hv6,hs6⟩
      rw[My,hrs.1,Nd]at hs6;refine .mk tb6 ws6 lws6 _ _ _ _ ⟨h6.sx,h6.l,h6.cA,h6.T,h6.w,h6.wA,h6.I.op (λx hx=>hx.elim (λh=>.inl (by rw[hdr];exact MR _ h)) .inr) (λx w ho no e=>?_),h6.m⟩;have ex:x=k:=by
       rcases ho with ho | ho
       ·rw[hdr]at ho
        rcases MQ.mp ho with ho | ho
        ·exact ho
        ·exact q0Q (.inl ho) no
       ·exact q0Q (.inr ho) no
      subst ex;rw[hv6]at e;cases e;intro r hr e1 t' ht' e2;obtain⟨v',l',e'⟩:=hs6 r hr e1;have u8:r.2.t.toNat<8:=by have:=(hR r hr).1.t0;have:=(hR r hr).1.t7;omega
      refine⟨v',l',?_⟩;have et:turned q t'=turned q t:=(hO t' ht').inj (hO t ht) (by rw[<- e2,<- ekt]);unfold gJ at e' ⊢;rw[<- bN hq a0 c0 ht' u8,et,bN hq a0 c0 ht u8];exact e'
    ·rintro σ H5 ⟨tb5,ws,lws,z5,z7,z8,z9,⟨sx5,hl5,hcA5,hT5,hw5,hwA,hI5,hm5⟩⟩
     refine h1 _ _ ?_;ext;rw[My,hcA5.1,List.drop_length]at hI5;have hI9:=hI5.op (op':=λk=>k∈lws) (λk hk=>.inr hk) (λk v ho no _=>ho.elim (λz=>nomatch z) λz=>q0Q z no);refine⟨_,?_,.mk tb5 lws lw ws _ _ _ _ _ sx5 hT5 hw5 hwA hI9 ⋯ rfl⟩;cases lws with
     |nil=>rw[q07 rfl];simp at hm5;omega
     |cons _ _=>rw[q06 (by simp)];simp at hm5;omega
theorem ph:∀{as:NC} {rs:Yaa},bX R H as rs->∃tas:List Addr,((as.zip rs).filterMap λx=>if x.2.1=3 then some (V.ref x.1) else none)=tas.map V.ref/\bX R H tas (qf rs)
 | [],[],h=>⟨[],rfl,h⟩
 | [],_::_,h=>nomatch h.1
 |_::_,[],h=>nomatch h.1
 |a::as,r::rs,h=>by
  have h2:bX R H as rs:=⟨Nat.succ.inj h.1,λi b y e1 e2=>h.2 (i+1) b y e1 e2⟩;obtain⟨tas,e,ht⟩:=ph h2;rw[List.zip_cons_cons,q0U]
  by_cases h3:r.1=3
  ·refine⟨a::tas,by simp only[q07 h3];rw[e];rfl,?_⟩
   have et:qf (r::rs)=r::qf rs:=by unfold qf;rw[List.filter_cons,q07 (by simpa using h3)]
   rw[et];refine⟨by rw[MM,MM,ht.1],λi b y e1 e2=>?_⟩;cases i with
   |zero=>
    rw[List.getElem?_cons_zero]at e1 e2;cases e1;cases e2
    exact h.2 0 _ _ rfl rfl
   |succ i=>exact ht.2 i b y e1 e2
  ·refine⟨tas,by simp only[q06 h3];exact e,?_⟩
   have et:qf (r::rs)=qf rs:=by unfold qf;rw[List.filter_cons,q06 (by simpa using h3)]
   rw[et];exact ht
theorem sG:∀{as:NC} {rs:Yaa} (k:Nat),as.length=rs.length->(((as.zip rs).zipIdx k).filterMap λx=>if x.1.2.1=3 then none else some (V.int (x.2:Int)))=vC ((rs.zipIdx k).filterMap λx=>if x.1.1=3 then none else some x.2)
 | [],[],_,_=>rfl
 | [],_::_,_,h=>nomatch h
 |_::_,[],_,h=>nomatch h
 |a::as,r::rs,k,h=>by
  have ih:=sG (as:=as) (rs:=rs) (k+1) (Nat.succ.inj h);rw[List.zip_cons_cons,List.zipIdx_cons,List.zipIdx_cons,q0U,q0U]
  by_cases h3:r.1=3
  ·simp only[q07 h3];exact ih
  ·simp only[q06 h3];rw[ih];rfl
abbrev dZ:Stmt:=eU 55
inductive fQ(R:RC)(CG:Addr)(vs:List V)(H:Hp)(Q:VK)(_E:XK):Prop
 |mk (g dx a d:Addr) (sg st:Ny) (as:NC) (rs:Yaa) (nms:List (List Nat)) (p q:aB) (r c:Nat) (Sn:aB->Prop) (dn:NG) (tb:Tb) (_:vs=[.ref g,.ref a,.ref d]) (_:cL R H CG dx g sg st as rs) (_:(bb (tx st) rs).map (·.1)=nms.map tx) (_:kZ rs nms p r c) (_:(∀q,Sn q->vc q)) (_:(∀q,bf p r c q->Sn q)) (_:ut rs p r c dn q) (_:ES rs nms Sn dn tb) (_:H a=some (.lst (av q))) (_:cj H d tb) (_:tb.length<=9900000) (_:∀l H' tb',H' l=some (.lst ((fj q).map V.str))->cj H' d tb'->(∀dn',(∀z,z∈dn'↔z∈dn\/∃t,t<8/\z=tx (bc (turned q t)))->ES rs nms Sn dn' tb')->tb'.length<=tb.length+1216->a_ d H H'->Q (.ref l) H')
theorem lF:az ["grammar","picture","told","turning","putting","texts","t","cuts"] ["grammar","picture","told"] (am dZ):=by walk_at "c"
theorem lx{f:Addr}(F:c8 K "enter_turnings" "enter_turnings" dZ f fd)(nb:NB mg)(rk:mR K R)(rk4:Do K R)(cc:jE K CC)(nc:FD K CC){tkT:Tok}(yao:mg "TURNINGS"=some (.int 8 tkT))(zwa:mg "TurnRule"=some (.ref R.ct))(yay:↑ij 1 CG "rules" ["self"] (gs R CG))(yaI:↑ij 1 CG "names" ["self"] (gq R CG))(ya9:↑l_ 3 "Cuts" CC ["self","picture"] (ik K))(zka:↑df 3 "turned" ["picture","t"] (jf K))(yaF:↑df 7 "put_together" ["grammar","numbers","cuts","told"] (io R CG CC))(ya3:↑df 2 "turn_about" ["rules","texts","names","told"] (jM R)):↑aV 8 f fd ["grammar","picture","told"] (fQ R CG):=by
 have sc:=lF;walk_at "f"
 ·obtain⟨g,dx,a,d,sg,st,as,l,f4,p,q,r,c,Sn,dn,tb,rfl,hG,f9,m,hD,hB,hN,hS,ha,hT,htl,qq⟩:=h
  have hu:=hr.units;refine⟨_,(ad (fG (i:=3) ["rule"] [] sc.nd rfl (Or.inl rfl) rfl  rfl (bv.of (by kernel_rfl)) (by kernel_rfl) (aR (qh yay (hr.mono nofun) aM (ak 0)))
    (λ_ _ _ _=>(au (i:=0) (by show(["rule"]:List Str).Nodup;decide +kernel) rfl (Or.inl rfl))) (λ_ _ _ _=>(nY (cR (aC (gz (K:=K) rfl) rfl nb.isinstance bG (aa (ak 0) (aa (cH (v:=.ref _) rfl zwa rfl) ac))) λ_=>rfl))) (λ_ _ _ _=>(ak 0)))
   (ad (fG (i:=4) ["k","rule"] [] sc.nd rfl (Or.inl rfl) rfl  rfl (bv.of (by kernel_rfl)) (by kernel_rfl) (n0 rfl nb.enumerate (aa (qh yay (hr.mono nofun) aM (ak 0)) ac))
    (λ_ _ _ _=>(nZ (K:=K) (n:=2) rfl rfl (aU (au (i:=0) (by show(["k","rule"]:List Str).Nodup;decide +kernel) rfl (Or.inl rfl)) (aU (au (i:=1) (by show(["k","rule"]:List Str).Nodup;decide +kernel) rfl (Or.inl rfl)) du)))) (λ_ _ _ _=>(nY (dE (cR (aC (gz (K:=K) rfl) rfl nb.isinstance bG (aa (ak 1) (aa (cH (v:=.ref _) rfl zwa rfl) ac))) λ_=>rfl)))) (λ_ _ _ _=>(ak 0)))
   (ad (q01 5 sc.nd (bh ac))
   (ad (aX PassesOwn.never rfl (bP rfl nb.range (aa (cH (v:=.int 8) rfl yao ⟨_,rfl⟩) ac)) (q02 6 sc.nd)
   (ad (q01 7 sc.nd (jo ya9 (hr.mono nofun) rfl aM (aa (aH zka (hr.mono nofun) rfl aM (aa (ak 1) (aa (ak 6) ac))) ac)))
   (ad (ba (aH yaF (hr.mono nofun) rfl aM (aa (ak 0) (aa (ak 4) (aa (ak 7) (aa (ak 2) ac))))))
   (ai (ba (dU PySem.F.plainAttrs_list PySem.F.slot_list_append PySem.F.type_list_append cg (ak 5) (aa (bE (ak 7) rfl) ac)))))))
   (ad (ba (aH ya3 (hr.mono nofun) rfl aM (aa (ak 3) (aa (ak 5) (aa (qh yaI (hr.mono nofun) aM (ak 0)) (aa (ak 2) ac))))))
   (ai (aG (ak 5)))))))),?_⟩
  obtain⟨lk,pn,nt,d4,hgk,z,hgN,hgm⟩:=id hG;have d2:∀x∈l,x.1<4:=λx G=>(m.gd x G).k4;have f8:=m.r24;have c3:=z.1;have c1:(as.zip l).length<=1000000:=by rw[q0N];omega
  symm;refine⟨_,_,d4,rfl,g,dx,sg,st,as,l,rfl,hG,λl1 H1 g2 e1 s1=>?_⟩;refine⟨l1,rfl,⟨_,aI.of e1⟩,?_⟩;refine d0 (as:=as.zip l) (emb:=λx=>V.ref x.1) (f:=λx=>if x.2.1=3 then some (V.ref x.1) else none) (λσ=>∃x,σ=[x]) ⟨_,rfl⟩ (λH2 O=>by rw[z.zip.1];exact aI.of (O _ _ e1)) c1 ?_ ?_
  ·rintro j x G σ H2 M1 M0 ⟨x0,rfl⟩ O k1 k0
   have D:=MB G;obtain⟨f3,rl,a4,_⟩:=(((z.zip.2.2 x D).up s1).up O);have a3:x.2.1<4:=d2 x.2 (by rw[<- z.zip.2.1];exact Nj.mpr ⟨x,D,rfl⟩);ext;refine⟨_,(rk.icls x.2.1).ty a4,_,rk4.kit x.2.1 3 a3 nofun,?_⟩
   by_cases M:x.2.1=3
   ·rw[q07 (by simpa using M)]
    exact k1 _ _ _ (by rw[q07 M]) O ⟨_,rfl⟩
   ·rw[q06 (by simpa using M)]
    exact k0 _ _ (by rw[q06 M]) O ⟨_,rfl⟩
  ·intro H2 O l2 d1
   obtain⟨f2,e9,f6⟩:=ph z;rw[e9];refine h1 _ _ ?_;clear h1;generalize T:aD H2 l2 _=H3;obtain⟨s3,e3⟩:=i4 d1 T;have sA:=s1.trans (O.trans s3);symm;have e2:=hG.up sA;refine⟨_,_,sA _ _ d4,rfl,g,dx,sg,st,as,l,rfl,e2,λl4 H4 g1 e4 s4=>?_⟩;refine⟨l4,rfl,_,aI.of e4,?_⟩;have sB:=sA.trans s4;refine xI (as:=as.zip l) (emb:=λx=>V.ref x.1) (f:=λi x=>if x.2.1=3 then none else some (V.int (i:Int))) (λσ=>∃x y,σ=[x,y]) ⟨_,_,rfl⟩ (λH5 J=>by rw[z.zip.1];exact aI.of (J _ _ e4)) c1 ?_ ?_
   ·rintro j x G σ H5 tp M1 M0 ⟨x0,x1,rfl⟩ J f5 k1 k0
    have D:=MB G;generalize T:aD H5 tp _=H6;obtain⟨Z,e6⟩:=i4 f5 T;obtain⟨f3,rl,a4,_⟩:=((((z.zip.2.2 x D).up sB).up J).up Z);have a3:x.2.1<4:=d2 x.2 (by rw[<- z.zip.2.1];exact Nj.mpr ⟨x,D,rfl⟩);ext;refine⟨_,cy.of e6,rfl,_,_,rfl,_,_,rfl,rfl,_,(rk.icls x.2.1).ty a4,_,rk4.kit x.2.1 3 a3 nofun,?_⟩
    by_cases M:x.2.1=3
    ·rw[q06 (by simpa using M)]
     exact k0 _ _ (by rw[q07 M]) (J.trans Z) ⟨_,_,rfl⟩
    ·rw[q07 (by simpa using M)]
     exact k1 _ _ _ (by rw[q06 M]) (J.trans Z) ⟨_,_,rfl⟩
   ·intro H5 J l5 c9
    rw[show((as.zip l).zipIdx.filterMap λx=>if x.1.2.1=3 then none else some (V.int (x.2:Int)))=vC (eQ l) from sG 0 c3];refine h1 _ _ ?_;clear h1;generalize T:aD H5 l5 _=H6;obtain⟨Z,e6⟩:=i4 c9 T;have sC:=sB.trans (J.trans Z);have h4:=(s4.trans (J.trans Z)) _ _ e3;have c2:=f6.up sC;have e0:=hG.up sC;have g5:=sC _ _ ha;have B:cj H6 d tb:=hT.up sC;clear Z c9 J s4 e4 g1 sB e2 sA s3 e3 d1 O s1 e1 g2;symm;refine⟨MZ _,λl7 I=>h1 _ _ ?_⟩;clear h1;generalize T:aD H6 l7 _=H7;obtain⟨s7,e7⟩:=i4 I T;symm;rw[show Int.toNat 8=8 from rfl];obtain⟨a0,b0,k⟩:=tQ m.hp m.r6 m.c6 hN.sq;have d6:=hS.pta m hN;have hpn:(eQ l).length<=24:=by
     unfold eQ;refine M9 (List.length_filterMap_le _ _) ?_;rw[List.length_zipIdx];exact f8
    have c5:l7≠d:=λe=>by
     rw[e]at I;rw[show H6 d=_ from B]at I;cases I
    refine⟨nofun,bK (lo:=0) (n:=8) (λt σ H8=>a_ d H6 H8/\cj H8 d (pta l (eQ l) q tb t)/\H8 l7=some (.lst (((List.range t).map λu=>tx (bc (turned q u))).map V.str))/\∃x6 x7,σ=[some (V.ref g),some (V.ref a),some (V.ref d),some (V.ref l2),some (V.ref l5),some (V.ref l7),x6,x7]) ⟨a_.of s7,B.up s7,e7,_,_,rfl⟩ ?_ ?_⟩
    ·rintro t σ H8 ht ⟨C,L,e8,x6,x7,rfl⟩
     have a2:=C.kp B;have f7:=hN.sq.turned m.hp ht;obtain⟨a1,b1,e5⟩:=tQ m.hp m.r6 m.c6 f7;have:=k.r6;have:=k.c6;symm;refine⟨a,q,a0,b0,t,by simp,aI.of (a2.lst g5),k.rc,k.r0,k.c0,⋯,⋯,ht,λlq H9 hlq h0 Y=>?_⟩;intro x a5 G g3 g0;have b3:ax H9 (aD (aD H9 a5 (.own x)) x (.ins CC a5 [])):=(af g3).trans (af (by rw[aq (Ne.symm g0)];exact G));refine⟨x,CC,a5,lq,turned q t,a1,b1,rfl,ae,cc.cl,nc,b3 _ _ h0,e5,λH3 hC sx=>⟨rfl,h1 _ _ ?_⟩⟩;clear h1;have s3:ax H9 H3:=λy u e=>sx y u (aA e G) (b3 y u e);have U:=Y.trans s3;have d5:cj H3 d (pta l (eQ l) q tb t):=L.up U;have a9:=C.then U;have b8:=a9.kp B;have c4:=(d6 t ⋯).len;symm;refine⟨g,dx,l5,x,d,sg,st,as,l,eQ l,turned q t,a1,b1,pta l (eQ l) q tb t,rfl,e0.kp b8,m.gd,b8.lst e6,λn hn=>(let ⟨r',e',_⟩:=kO.mp hn;(Mw.mp e').1),⋯,hC,e5,d5,?_,λH4 g7 a8=>h1 _ _ ?_⟩
     ·have:6*(eQ l).length*t<=6*24*8:=Nat.mul_le_mul ⋯ ⋯
      omega
     clear h1;have b5:=a8.kp d5;obtain⟨dxc,lp,lb,la,g4,_⟩:=hC.kp b5;have f0:=b5.lst (U _ _ e8);ext;refine⟨.inl ⟨rfl,_,aI.of f0⟩,_,_,_,g4,cc.cl,nc.2.1,_,rfl,_,f0,by rw[My,My,q0J];exact aY ⋯,λb o hb h=>?_,?_,?_⟩
     ·rw[aq (aA h I)];exact(a9.trans a8) b o hb h
     ·show aD H4 l7 _ d=_
      rw[aq (Ne.symm c5)];exact g7
     ·rw[ae,q0M,MN,MN];rfl
    ·rintro σ H8 ⟨C,L,e8,x6,x7,rfl⟩
     refine h1 _ _ ?_;clear h1;ext;have a2:=C.kp B;have d7:=e0.kp a2;obtain⟨lk',pn',nt',d3,_⟩:=id d7;have a6:=d6 8 (MY _);have c4:=a6.len;have hlen2:6*(eQ l).length*8<=6*24*8:=Nat.mul_le_mul ⋯ ⋯;have g6:=ES.start m hB hN hS a6;have hcell:bu q<=6*6:=by
      unfold bu;rw[k.rc.1,aW k.rc k.r0];exact Nat.mul_le_mul k.r6 k.c6
     refine⟨_,_,d3,rfl,g,dx,sg,st,as,l,rfl,d7,λln H9 hln h2 Y=>?_⟩;have a7:=C.then Y;have b4:=a7.kp B;refine⟨l2,l7,ln,d,f2,qf l,l,q,a0,b0,f4,1170*bu q-1161,(pta l (eQ l) q tb 8).length,pta l (eQ l) q tb 8,rfl,b4.lst h4,c2.kp b4,Y _ _ e8,?_,L.up Y,k.rc,k.r0,k.c0,λt ht=>eN m.hp m.ns (hN.sq.turned m.hp ht),m.n8,λx G=>⟨m.turn3 G,by simpa using(List.mem_filter.mp G).2⟩,g6,⋯,⋯,λH' f1 g9 S b2=>?_⟩
     ·rw[h2]
      congr 2
      have:=q0R (List.map V.str) f9;rw[MP,MP]at this;exact this
     ·have h64:=S.len64 m.n8
      refine qq l7 H' f1 ((b2.kp (L.up Y)).lst (Y _ _ e8)) g9 (λdn' hd=>ES.enter m hD hB hN hS a6 S hd) ⋯ ((a_.of sC).trans (a7.trans b2))
theorem ES.nil{Sn:aB->Prop}:ES rs nms Sn [] []:=⟨List.nodup_nil,(λk v h=>nomatch h),(λk v h=>nomatch h),(λz h=>nomatch h),(λq _ h=>nomatch h),(λq _ h=>nomatch h),(λq _ h=>nomatch h)⟩
theorem Dx{r c:Nat}(hr:r<=6)(hc:c<=6):64*(dJ r c).length<=990000:=by
 have h:∀r,r<7->∀c,c<7->(dJ r c).length<=1000:=by decide +kernel
 have:=h r ⋯ c ⋯;omega
structure Ay(rs:Yaa)(nms:List (List Nat))(p:aB)(r c:Nat)(tb:Tb):Prop where
 nd:(tb.map (·.1)).Nodup
 key:∀k v,aP tb k=some v->(∃q,bf p r c q/\k.1=bc q)/\k.2∈nms/\Dv rs k v/\1<=v
 clo:∀q,bf p r c q->IU rs (aP tb) q
 len:tb.length<=9900000
theorem Ay.min(E:kZ rs nms p r c)(h:Ay rs nms p r c tb){q:aB}(hq:bf p r c q){n:Ny}{v:Int}(hv:Dv rs (bc q,n) v):∃v',v'<=v/\aP tb (bc q,n)=some v':=
 vd E.hp E.ns (λx hx=>⟨(E.gd x hx).good.t0,(E.gd x hx).good.t7⟩) h.clo hv q hq rfl
def F2(d e:Addr)(H H':Hp):Prop:=∀b o,b≠d->b≠e->H b=some o->H' b=some o
def vB(dn:NG)(zs:NG):List Str:=zs.foldl ThM.addNew dn
theorem lB{z:Str}:∀{zs dn:NG},z∈vB dn zs↔z∈dn\/z∈zs
 | [],dn=>by simp[vB]
 |y::zs,dn=>by
  show z∈vB (ThM.addNew dn y) zs↔_;rw[lB,ThM.mem_addNew,MQ,or_assoc]
theorem qg:∀(zs dn:NG),(vB dn zs).length<=dn.length+zs.length
 | [],dn=>MY _
 |y::zs,dn=>by
  have h1:=qg zs (ThM.addNew dn y);have h2:(ThM.addNew dn y).length<=dn.length+1:=by unfold ThM.addNew;split<;>simp
  show(vB (ThM.addNew dn y) zs).length<=_;rw[MM];omega
theorem wR{z:Str}:z∈fj q↔∃t,t<8/\z=tx (bc (turned q t)):=by
 unfold fj;rw[Nj]
 constructor
 ·rintro⟨t,a,rfl⟩;exact⟨t,List.mem_range.mp a,rfl⟩
 ·rintro⟨t,a,rfl⟩;exact⟨t,List.mem_range.mpr a,rfl⟩
theorem ES.new{dn:NG}{Sn:aB->Prop}{qs:List aB}{i:Nat}{q:aB}(E:kZ rs nms p r c)(Sb:∀q,bf p r c q->Sn q)(S:ES rs nms Sn dn tb)(hsn:GL p r c qs)(hi:qs[i]?=some q)(hdn:∀j z,j<i->qs[j]?=some z->tx (bc z)∈dn)(hno:tx (bc q)∉dn):ut rs p r c dn q:=by
 have a:=(hsn.1 q).mp (MB hi);obtain⟨a0,b0,g,e,d,_⟩:=a.rect E.hp;refine⟨a,λt b v=>hno ?_,λn k hc=>?_⟩
 ·have:=S.tur _ (Sb _ (a.turned E.hp b)) v (cW t) (lv b)
  rwa [i' g e d b]at this
 ·obtain⟨j,o⟩:=List.mem_iff_getElem?.mp ((hsn.1 n).mpr k)
  refine hdn j n ?_ o;obtain⟨IH,u⟩:=Mw.mp hi;obtain⟨l,m⟩:=Mw.mp o;rcases Nat.lt_trichotomy j i with h | h | h
  ·exact h
  ·subst h
   rw[u]at m;subst m;omega
  ·have:=List.pairwise_iff_getElem.mp hsn.2 i j IH l h
   rw[u,m]at this;rcases this with h | ⟨h,_⟩<;>omega
theorem iW{α β:Type}{f:α->List β}{n:Nat}:∀{l:List α},(∀x,(f x).length=n)->(l.flatMap f).length=l.length*n
 | [],_=>by simp
 |x::l,h=>by rw[List.flatMap_cons,MX,h x,iW (l:=l) h,MM,Nat.add_mul];omega
theorem Df{qs:List aB}(h:GL p r c qs):qs.length<=8*(dJ r c).length:=by
 have a:qs.Nodup:=h.2.imp λg e=>by
  subst e;rcases g with h | ⟨_,h⟩
  ·omega
  ·exact q0Q h (List.lt_irrefl _)
 have:=jr a (L:=(List.range (dJ r c).length).flatMap λi=>(List.range 8).map λu=>turned (AW p ((dJ r c).getD i [])) u) λq d=>by
  obtain⟨i,j,u,b,e⟩:=md.mp ((h.1 q).mp d);exact List.mem_flatMap.mpr ⟨i,List.mem_range.mpr j,Nj.mpr ⟨u,List.mem_range.mpr b,e.symm⟩⟩
 rw[iW (n:=8) (λi=>by rw[My,q0J]),q0J]at this;omega
theorem ES.len{Sn:aB->Prop}{dn:NG}(S:ES rs nms Sn dn tb)(n8:nms.length<=8):tb.length<=8*dn.length:=by
 have nd:(tb.map λe=>(tx e.1.1,e.1.2)).Nodup:=by
  have:=S.nd;rw[List.nodup_iff_pairwise_ne,List.pairwise_map]at this ⊢;exact this.imp λh e=>h (by
   injection e with e1 e2
   exact Prod.ext (cT e1) e2)
 have:=jr nd (L:=dn.flatMap λz=>nms.map λn=>(z,n)) λx a=>by
  obtain⟨e,b,rfl⟩:=Nj.mp a;obtain⟨h1,h2,_⟩:=S.key e.1 e.2 (BL S.nd b);exact List.mem_flatMap.mpr ⟨_,h1,Nj.mpr ⟨_,h2,rfl⟩⟩
 rw[My,iW (n:=nms.length) (λi=>by rw[My])]at this;have h2:=Nat.mul_le_mul_left dn.length n8;omega
abbrev gO:Stmt:=eU 54
inductive gl(K:W.Frag)(R:RC)(CG:Addr)(vs:List V)(H:Hp)(Q:VK)(_E:XK):Prop
 |mk (g dx a d e:Addr) (sg st:Ny) (as:NC) (rs:Yaa) (nms:List (List Nat)) (p:aB) (r c:Nat) (Sn:aB->Prop) (dn:NG) (tb:Tb) (H0:Hp) (_:vs=[.ref g,.ref a,.ref d,.ref e]) (_:cL R H0 CG dx g sg st as rs) (_:ax H0 H) (_:H0 d=none) (_:H0 e=none) (_:(bb (tx st) rs).map (·.1)=nms.map tx) (_:kZ rs nms p r c) (_:(∀q,Sn q->vc q)) (_:(∀q,bf p r c q->Sn q)) (_:aI K H a (av p)) (_:cj H d tb) (_:H e=some (.dK (ThM.trueD dn))) (_:ES rs nms Sn dn tb) (_:dn.length+64*(dJ r c).length<=990000) (_:∀H' dn' tb',cj H' d tb'->H' e=some (.dK (ThM.trueD dn'))->ES rs nms Sn dn' tb'->dn'.length<=dn.length+64*(dJ r c).length->(∀q,bf p r c q->tx (bc q)∈dn')->F2 d e H H'->Q .non H')
theorem qC:az ["grammar","picture","told","done","seen","text"] ["grammar","picture","told","done"] (am gO):=by walk_at "c"
theorem qI{f:Addr}(F:c8 K "enter_seen" "enter_seen" gO f fd)(nb:NB mg)(yaL:↑df 4 "seen_in" ["picture"] (pN K))(yab:↑df 1 "shown" ["picture"] (dR K))(yaJ:↑df 8 "enter_turnings" ["grammar","picture","told"] (fQ R CG)):↑aV 9 f fd ["grammar","picture","told","done"] (gl K R CG):=by
 have sc:=qC;walk_at "f"
 ·obtain⟨g,dx,a,d,e,sg,st,as,rs,a2,p,r,c,Sn,b2,Z,H0,rfl,hG,s0,c5,c4,c3,m,hD,hB,d1,hT,he,d4,hl0,qq⟩:=h
  have hu:=hr.units;refine⟨_,(ai (aX PassesOwn.never rfl (aR (aH yaL (hr.mono nofun) rfl aM (aa (ak 1) ac))) (q02 4 sc.nd)
   (ai (bB (mH (lU (Nh (Nl (by decide:1<=64) _) hu) (aH yab (hr.mono nofun) rfl aM (aa (ak 4) ac)) (ak 3)) (by with_unfolding_all rfl))
   (ai (aX PassesOwn.never rfl (aR (aH yaJ (hr.mono nofun) rfl aM (aa (ak 0) (aa (ak 4) (aa (ak 2) ac))))) (q02 5 sc.nd)
   (ai (tJ (Nh (Nl (by decide:1<=64) _) hu) (ak 3) (ak 5) fO rfl))))
   aO)))),?_⟩
  ext;refine⟨a,p,r,c,rfl,d1,m.hp,m.r0,m.c0,m.r6,m.c6,m.ns,m.few,λH1 l Y s1 hl el hz hnd C hzl=>⟨l,rfl,⟨_,aI.of el⟩,?_⟩⟩;have b1:cj H1 d Z:=hT.up s1;have a7:=s1 _ _ he;have c1:=Df C;rw[My]at c1;have b8:ax H0 H1:=s0.trans s1;have a9:d≠e:=λz=>by rw[z]at hT;rw[show H e=_ from hT]at he;cases he
  have b3:∀{H':Hp} {b:Addr} {xs:List V},F2 d e H1 H'->H1 b=some (.lst xs)->H' b=some (.lst xs):=fun{H' b xs} s h=>s b _ (λz=>by rw[z,show H1 d=_ from b1]at h;cases h) (λz=>by rw[z,a7]at h;cases h) h;refine bz (xs:=Y.map λz=>V.ref z.1) (λi σ H2=>F2 d e H1 H2/\i<=Y.length/\(∃(tb:Tb) (k:NG),cj H2 d tb/\H2 e=some (.dK (ThM.trueD k))/\ES rs a2 Sn k tb/\(∀j z,j<i->(Y.map (·.2))[j]?=some z->tx (bc z)∈k)/\k.length<=b2.length+8*i)/\∃x4 L,σ=[some (V.ref g),some (V.ref a),some (V.ref d),some (V.ref e),x4,L]) ?_ (λi σ H2 _ h=>aI.of (b3 h.1 el)) ?_ ?_
  ·refine⟨λb o _ _ h=>h,MZ _,⟨Z,b2,b1,a7,d4,(λj z h=>q0Q h (Nat.not_lt_zero _)),MY _⟩,_,_,rfl⟩
  ·rintro i x σ H2 hx ⟨U,_,⟨tb,k,I,n,T,u,a5⟩,x4,L,rfl⟩
   rw[MA]at hx;obtain⟨z,M,rfl⟩:=M5.mp hx;have hi:=(Mw.mp M).1;have c2:=MB M;have a3:=b3 U (hz z c2).2;have D:(Y.map (·.2))[i]?=some z.2:=by rw[MA,M];rfl
   have sq:=(C.1 z.2).mp (MB D);obtain⟨a0,b0,d5⟩:=tQ m.hp m.r6 m.c6 sq;have a8:tx (bc z.2)∈k->∀j y,j<i+1->(Y.map (·.2))[j]?=some y->tx (bc y)∈k:=λO j y S v=>by
    by_cases ej:j=i
    ·subst ej
     rw[D]at v;cases v
     exact O
    ·exact u j y ⋯ v
   ext;refine⟨z.1,z.2,rfl,a3,d5.small,_,.inl ⟨_,.inr (tx (bc z.2)),.inl n,rfl,rfl⟩,?_⟩;rw[ThM.trueD_val]
   by_cases O:tx (bc z.2)∈k
   ·rw[q06 (by simpa using O)]
    exact⟨U,hi,tb,I,k,n,T,a8 O,⋯⟩
   ·rw[q07 (by simpa using O)]
    have hN:=T.new m hB C D u O;have htl:=T.len m.n8;have b5:ax H0 H2:=λb o h=>U b o (aA h c5) (aA h c4) (b8 b o h);refine⟨g,dx,z.1,d,sg,st,as,rs,a2,p,z.2,r,c,Sn,k,tb,rfl,hG.up b5,c3,m,hD,hB,hN,T,a3,I,⋯,λl3 H3 b4 J c9 d3 hl3 a1=>⟨l3,rfl,⟨_,aI.of J⟩,?_⟩⟩;have a6:=a1 _ _ (Ne.symm a9) n;have hcl:(fj z.2).length=8:=by unfold fj;rw[My,q0J]
    refine bz (xs:=(fj z.2).map V.str) (λj σ H4=>a_ e H3 H4/\j<=8/\H4 e=some (.dK (ThM.trueD (vB k ((fj z.2).take j))))/\∃L,σ=[some (V.ref g),some (V.ref a),some (V.ref d),some (V.ref e),some (V.ref z.1),L]) ⟨a_.of λ_ _ h=>h,MZ _,a6,_,rfl⟩ (λj σ H4 _ h=>aI.of (h.1 _ _ (λzz=>by rw[zz,a6]at J;cases J) J)) ?_ ?_
    ·rintro j x σ H4 hx ⟨B,_,G,L,rfl⟩
     rw[MA]at hx;obtain⟨y,v,rfl⟩:=M5.mp hx;have S:j<8:=by have:=(Mw.mp v).1;omega
     have a4:=qg ((fj z.2).take j) k;rw[Nf]at a4;ext;refine⟨_,.inl ⟨_,.inr y,G,rfl,by rw[ThM.trueD_len];exact aY ⋯,rfl⟩,B.put,S,?_⟩;rw[ae,ThM.trueD_put,q0E,v];show _=some (HO.dK (ThM.trueD (List.foldl ThM.addNew k (_++[y]))));rw[List.foldl_append];rfl
    ·rintro σ H4 ⟨B,_,G,L,rfl⟩
     rw[My,Nd]at G;have a4:=qg (fj z.2) k;have d2:=d3 (vB k (fj z.2)) λy=>by rw[lB,wR]
     refine⟨λb o h1 h2 h=>B b o h2 (a1 b o h1 (U b o h1 h2 h)),hi,⟨b4,B _ _ a9 c9,vB k (fj z.2),G,d2,λj y S v=>?_,⋯⟩,_,_,rfl⟩
     by_cases ej:j=i
     ·subst ej
      rw[D]at v;cases v
      exact lB.mpr (.inr (wR.mpr ⟨0,⋯,rfl⟩))
     ·exact lB.mpr (.inl (u j y ⋯ v))
  ·rintro σ H2 ⟨U,_,⟨tb,k,I,n,T,u,a5⟩,x4,L,rfl⟩
   have all:∀q,bf p r c q->tx (bc q)∈k:=λq hq=>by
    obtain⟨j,S⟩:=List.mem_iff_getElem?.mp ((C.1 q).mpr hq);refine u j q ?_ S;have:=(Mw.mp S).1
    rwa [My]at this ⊢
   rw[My]at a5;exact qq H2 k tb I n T ⋯ all λb o h1 h2 h=>U b o h1 h2 (s1 b o h)
abbrev jX:Stmt:=eU 53
inductive ja(K:W.Frag)(R:RC)(CG:Addr)(vs:List V)(H:Hp)(Q:VK)(_E:XK):Prop
 |mk (g dx a:Addr) (sg st:Ny) (as:NC) (rs:Yaa) (nms:List (List Nat)) (p:aB) (r c:Nat) (_:vs=[.ref g,.ref a]) (_:cL R H CG dx g sg st as rs) (_:(bb (tx st) rs).map (·.1)=nms.map tx) (_:kZ rs nms p r c) (_:aI K H a (av p)) (_:∀d H' tb,H d=none->cj H' d tb->Ay rs nms p r c tb->ax H H'->Q (.ref d) H')
theorem wu:az ["grammar","picture","told"] ["grammar","picture"] (am jX):=by walk_at "c"
theorem vR{f:Addr}(F:c8 K "table_of" "table_of" jX f fd)(nb:NB mg)(yaq:↑df 9 "enter_seen" ["grammar","picture","told","done"] (gl K R CG)):↑aV 10 f fd ["grammar","picture"] (ja K R CG):=by
 have sc:=wu;walk_at "f"
 ·obtain⟨g,dx,a,M,L,as,O,x,p,r,c,rfl,Y,y,i,C,S⟩:=h
  refine⟨_,(ad (q01 2 sc.nd vh)
   (ad (ba (aH yaq (hr.mono nofun) rfl aM (aa (ak 0) (aa (ak 1) (aa (ak 2) (aa pR ac))))))
   (ai (aG (ak 2))))),?_⟩
  ext;intro d m e u;have z:H e=none:=(af (o:=.dT []) m).free u;have l:=af (o:=.dT []) m;have J:cj (aD H d (.dT [])) d []:=ae;generalize aD H d (.dT [])=H1 at l J u ⊢;have j:=af (o:=.dK []) u;have I:aD H1 e (.dK []) e=some (.dK []):=ae;generalize aD H1 e (.dK [])=H2 at j I ⊢;refine⟨g,dx,a,d,e,M,L,as,O,x,p,r,c,bf p r c,[],[],H,rfl,Y,l.trans j,m,z,y,i,λq h=>eN i.hp i.ns h,λq h=>h,(l.trans j).seq C,J.up j,I,ES.nil,(by have:=Dx i.r6 i.c6;simp only[List.length_nil];omega),λH' dn tb U _ n B all Z=>?_⟩;have T:=Dx i.r6 i.c6;have hl:=n.len i.n8;exact S d H' tb m U ⟨n.nd,λk v h=>(n.key k v h).elim λh1 h2=>(n.don _ h1).elim λq G=>⟨⟨q,G.1,cT G.2⟩,h2⟩,λq D=>n.clo q D (all q D),by simp only[List.length_nil]at B T;omega⟩ λb o h=>Z b o (aA h m) (aA (l b o h) u) (j b o (l b o h))
theorem iY{z:Str}:∀{m:List (Str×List Nat)},z∉m.map (·.1)->m.lookup z=none
 | [],_=>rfl
 |q::m,h=>by
  rw[M8,MQ,not_or]at h;rw[List.lookup_cons,show(z==q.1)=false from beq_eq_false_iff_ne.mpr h.1];exact iY h.2
theorem zf{y:Str}(h:y∈(bb z rs).map (·.1)):(bb z rs).lookup y=some (jR y rs):=by
 obtain⟨q,a,rfl⟩:=Nj.mp h;exact(ED a).1
abbrev hX:Stmt:=eU 50
inductive jI(R:RC)(CG CN_:Addr)(vs:List V)(H:Hp)(Q:VK)(E:XK):Prop
 |mk (g dx:Addr) (sg st:Ny) (as:NC) (rs:Yaa) (v:V) (_:vs=[.ref g,v]) (_:cL R H CG dx g sg st as rs) (_:((v=.non/\Q (.str (tx st)) H)\/∃z,v=.str z/\(∀ns,(bb (tx st) rs).lookup z=some ns->∀H',ax H H'->Q (.str z) H')/\((bb (tx st) rs).lookup z=none->E (.ref CN_) none H)))
theorem qG:az ["grammar","name"] ["grammar","name"] (am hX):=by walk_at "c"
theorem qt{f CN_:Addr}(F:c8 K "name_asked" "name_asked" hX f fd)(nb:NB mg)(cl:iF K CG)(na:ay K CG "signs"/\ay K CG "start"/\ay K CG "kept"/\ay K CG "numbers")(yas:ij P w K mg base (j6 P w) 1 CG "numbers_of" ["self","name"] (cS R CG CN_)):aV P w K mg base (j6 P w) 2 f fd ["grammar","name"] (jI R CG CN_):=by
 have sc:=qG;walk_at "x"
 ·obtain⟨g,j,c,b,k,d,v,rfl,_⟩:=h;rfl
 ·obtain⟨g,j,c,b,k,d,v,rfl,i,h⟩:=h
  have hu:=hr.units;obtain⟨lk,pn,t,e,hk,hrs,hN,hm⟩:=id i;refine⟨_,(ad (bB (aK GK (ak 1) mM (aZ _))
   (ai (aG (bE (ak 0) rfl)))
   aO)
   (ad (ba (kW yas (hr.mono nofun) (mv λ_ _ _ h=>h) (ak 0) (aa (ak 1) ac)))
   (ai (aG (ak 1))))),?_⟩
  ext;rcases h with⟨rfl,q⟩ | ⟨z,rfl,o,n⟩
  ·rw[q07 rfl]
   exact⟨_,_,_,e,cl,na.2.1,_,rfl,q⟩
  ·rw[q06 (λh=>nomatch h)]
   exact⟨_,_,e,rfl,g,j,c,b,k,d,z,rfl,i,λns a l p _ _ m=>o ns a p m,n⟩
abbrev hZ:Stmt:=eU 52
inductive jS(K:W.Frag)(R:RC)(CG CN_:Addr)(vs:List V)(H:Hp)(Q:VK)(E:XK):Prop
 |mk (g dx a:Addr) (sg st:Ny) (as:NC) (rs:Yaa) (nms:List (List Nat)) (p:aB) (r c:Nat) (v:V) (_:vs=[.ref g,.ref a,v]) (_:cL R H CG dx g sg st as rs) (_:(bb (tx st) rs).map (·.1)=nms.map tx) (_:kZ rs nms p r c) (_:H a=some (.lst (av p))) (_:((v=.non/\∀H' tb,Ay rs nms p r c tb->ax H H'->Q (wv (aP tb (bc p,st))) H')\/∃n,v=.str (tx n)/\(n∈nms->∀H' tb,Ay rs nms p r c tb->ax H H'->Q (wv (aP tb (bc p,n))) H')/\(n∉nms->E (.ref CN_) none H)))
theorem qE:az ["grammar","picture","name","asked"] ["grammar","picture","name"] (am hZ):=by walk_at "c"
theorem qA{f CN_ dT:Addr}(F:Fg K "least_cost" "least_cost" hZ f fd dT)(nb:NB mg)(yaW:df P w K mg base (j6 P w) 2 "name_asked" ["grammar","name"] (jI R CG CN_))(ya2:↑df 10 "table_of" ["grammar","picture"] (ja K R CG))(yab:↑df 1 "shown" ["picture"] (dR K)):aV P w K mg base (j6 P w) 11 f fd ["grammar","picture","name"] (jS K R CG CN_):=by
 have sc:=qE;walk_at "x"
 ·obtain⟨g,M,a,L,k,O,u,i,p,r,c,v,rfl,_⟩:=h;rfl
 ·obtain⟨g,M,a,L,k,O,u,i,p,r,c,v,rfl,Z,j,G,U,h⟩:=h
  have hu:=hr.units;refine⟨_,(ad (q01 3 sc.nd (aH (E:=E) yaW (hr.mono nofun) rfl (mv λ_ _ _ h=>h) (aa (ak 0) (aa (ak 2) ac))))
   (ai (aG (CL (Nh (Nl (by decide:1<=64) _) hu) (aH (CX:=j6 P w) ya2.lift (hr.mono nofun) rfl dt (aa (ak 0) (aa (ak 1) ac))) (bH (aa (aH (CX:=j6 P w) yab.lift (hr.mono nofun) rfl dt (aa (ak 1) ac)) (aa (ak 3) ac))) ⟨rfl,rfl,rfl,rfl⟩)))),?_⟩
  ext;have small:eG p:=eG.of G.hp (by have:=G.r6;omega) (by have:=G.c6;omega);have cN:∀(n:Ny) (H1:Hp),ax H H1->(∀H' tb,Ay u i p r c tb->ax H H'->Q (wv (aP tb (bc p,n))) H')->ja K R CG [V.ref g,V.ref a] H1 (λx b=>∃a_1,x=V.ref a_1/\IT b a_1/\dR K [V.ref a] b (λy H1=>2<=sizeLine/\∀(p:Addr),H1 p=none->∃o,kC (aD H1 p (HO.tup [y,V.str (tx n)])) a_1 (V.ref p) o/\Q (o.getD V.non) (aD H1 p (HO.tup [y,V.str (tx n)]))) (λx J I=>False)) (λx J I=>False):=λn H1 l q=>by
   refine⟨g,M,a,L,k,O,u,i,p,r,c,rfl,Z.up l,j,G,aI.of (l _ _ U),λd H2 tb hd Y hB T=>⟨d,rfl,.inr ⟨_,.inl Y⟩,a,p,rfl,(l.trans T) _ _ U,small,ar nofun,λS z=>?_⟩⟩;have hk:bp (aD H2 S (.tup [V.str (tx (bc p)),V.str (tx n)])) S (bc p,n):=ae;refine⟨_,(Y.up (af z)).told.get hk,?_⟩;rw[show((aP tb (bc p,n)).map V.int).getD V.non=wv (aP tb (bc p,n)) by cases aP tb (bc p,n)<;>rfl];exact q _ tb hB ((l.trans T).trans (af z))
  refine⟨g,M,L,k,O,u,v,rfl,Z,?_⟩;rcases h with⟨rfl,q⟩ | ⟨n,rfl,q1,q2⟩
  ·exact .inl ⟨rfl,cN k H (λ_ _ h=>h) q⟩
  ·refine .inr ⟨tx n,rfl,λns B H1 l=>cN n H1 l (q1 ?_),λC=>q2 ?_⟩
   ·have:tx n∈(bb (tx k) u).map (·.1):=Classical.byContradiction λD=>by rw[iY D]at B;cases B
    rw[j]at this;obtain⟨m,D,e⟩:=Nj.mp this;rw[<- cT e];exact D
   ·intro D
    have:tx n∈(bb (tx k) u).map (·.1):=by rw[j];exact Nj.mpr ⟨n,D,rfl⟩
    rw[zf this]at C;cases C
abbrev kq:Stmt:=eU 62
inductive mZ(vs:List V)(H:Hp)(Q:VK)(_E:XK):Prop
 |mk (z:Str) (r c:Nat) (_:vs=[.str z,.int (r:Int),.int (c:Int)]) (_:z.length<=4) (_:r<=6) (_:c<=6) (_:Q (.int ((z.length ^ (r*c):Nat):Int)) H)
theorem wd:az ["signs","rows","columns","many","cell"] ["signs","rows","columns"] (am kq):=by walk_at "c"
theorem wO{f:Addr}(F:c8 K "how_many" "how_many" kq f fd)(nb:NB mg):↑aV 1 f fd ["signs","rows","columns"] mZ:=by
 have sc:=wd;walk_at "f"
 ·obtain⟨z,r,c,rfl,z4,b,d,q⟩:=h
  have rc:r*c<=36:=M9 (Nat.mul_le_mul b d) nofun;refine⟨_,(ad (q01 3 sc.nd aj)
   (ad (aX PassesOwn.never rfl (bP rfl nb.range (aa (aF (bC.m1 dz) (ak 1) (ak 2)) ac)) (q02 4 sc.nd)
   (ai (q01 3 sc.nd (aF (bC.m1 dz) (ak 3) (aC aS rfl nb.len bi (aa (ak 0) ac))))))
   (ai (aG (ak 3))))),?_⟩
  symm;refine h1 _ _ ?_;grind;rw[<- Int.natCast_mul,MJ];refine⟨.inl ⟨⋯,⋯⟩,⋯,⋯,?_⟩;refine bK (lo:=0) (n:=r*c) (λi σ a=>a=H/\∃x,σ=[some (V.str z),some (V.int (r:Int)),some (V.int (c:Int)),some (V.int ((z.length ^ i:Nat):Int)),x]) ⟨rfl,_,rfl⟩ ?_ ?_
  ·rintro i σ a hi ⟨rfl,x,rfl⟩
   ext;refine⟨ar ⋯,.inr ⟨⋯,⋯⟩,?_⟩;rw[Nat.pow_succ,Int.natCast_mul]
  ·rintro σ a ⟨rfl,x,rfl⟩
   refine h1 _ _ ?_;ext;exact q
def qY{α:Type}(f:α->α->α)(ls:List α)(e:α):Nat->List α
 |0=>[e]
 |n+1=>(qY f ls e n).flatMap λc=>ls.map (f c)
theorem lC{α:Type}(f:α->α->α)(ls:List α)(e:α):∀n,(qY f ls e n).length=ls.length ^ n
 |0=>rfl
 |n+1=>by
  show((qY f ls e n).flatMap λc=>ls.map (f c)).length=_;rw[iW (n:=ls.length) (λc=>by rw[My]),lC f ls e n,Nat.pow_succ]
theorem vU{α:Type}(f:α->α->α)(ls:List α)(e:α)(i j:Nat):(((qY f ls e i).take j).flatMap λc=>ls.map (f c)).length<=ls.length ^ (i+1):=by
 rw[iW (n:=ls.length) (λc=>by rw[My]),Nat.pow_succ,<- lC f ls e i];exact Nat.mul_le_mul_right _ (by rw[Nf];exact Nat.min_le_right _ _)
theorem FZ(r s:Ny):tx r++tx s=tx (r++s):=by
 show(⟨(tx r).cps++(tx s).cps⟩:Str)=tx (r++s);unfold tx;simp
abbrev pV:Stmt:=eU 64
abbrev mq(r:Ny):V:=.str (tx r)
abbrev jB(H:Hp)(a:Addr)(p:aB):Prop:=H a=some (.lst (av p))
theorem Db{as:NC}(h:jB H b p)(l0:0<p.length)(hl:H l=some (.lst (as.map V.ref))):b≠l:=λe=>by
 rw[<- e]at hl;rw[show H b=_ from h]at hl;have e2:av p=as.map V.ref:=by injection hl with hl;injection hl
 have c:=q0R (λl=>l[0]?) e2;rw[br l0,MA]at c;cases as with
 |nil=>cases c
 |cons a as=>cases c
theorem aL.both{β:Type}{A:Hp->Addr->β->Prop}{bs:NC}{xs ys:List β}(h1:aL A H as xs)(h2:aL A H bs ys):aL A H (as++bs) (xs++ys):=by
 refine⟨by rw[MX,MX,h1.1,h2.1],λi b y c a=>?_⟩
 by_cases d:i<as.length
 ·rw[MW d]at c
  rw[MW (by rw[<- h1.1];exact d)]at a;exact h1.2 i b y c a
 ·rw[MV ⋯]at c
  rw[MV (by rw[<- h1.1];omega),<- h1.1]at a;exact h2.2 _ b y c a
inductive r_(K:W.Frag)(vs:List V)(H:Hp)(Q:VK)(_E:XK):Prop
 |T (l:Addr) (ls:List (List Nat)) (n:Nat) (_:vs=[.ref l,.int (n:Int),.str (tx [])]) (_:H l=some (.lst (ls.map mq))) (_:n<=6) (_:∀x∈ls,x.length<=1) (_:ls.length<=4) (_:ls.length ^ n<=300) (_:∀l' H',H l'=none->H' l'=some (.lst ((qY (· ++ ·) ls [] n).map mq))->ax H H'->Q (.ref l') H')
 |L (l e:Addr) (ls:List aB) (as:NC) (n:Nat) (_:vs=[.ref l,.int (n:Int),.ref e]) (_:H l=some (.lst (as.map V.ref))) (_:aL jB H as ls) (_:H e=some (.lst [])) (_:n<=6) (_:∀x∈ls,x.length=1) (_:ls.length ^ n<=300) (_:0<ls.length) (_:∀l' H' bs,H l'=none->H' l'=some (.lst (bs.map V.ref))->aL jB H' bs (qY (· ++ ·) ls [] n)->ax H H'->Q (.ref l') H')
theorem A3:az ["links","many","nothing","found","step","longer","chain"] ["links","many","nothing"] (am pV):=by walk_at "c"
theorem AT{f:Addr}(F:c8 K "chains" "chains" pV f fd)(nb:NB mg):↑aV 1 f fd ["links","many","nothing"] (r_ K):=by
 have sc:=A3;walk_at "f"
 ·rcases h with⟨l,d,n,rfl,hl,n6,O,l4,pw,q⟩ | ⟨l,e,d,as,n,rfl,hl,hA,he,n6,O,pw,l0,q⟩
  ·refine⟨_,(ad (q01 3 sc.nd (bh (aa (ak 2) ac)))
   (ad (aX PassesOwn.never rfl (bP rfl nb.range (aa (ak 1) ac)) (q02 4 sc.nd)
   (ad (q01 5 sc.nd (bh ac))
   (ad (aX PassesOwn.never rfl (aR (ak 3)) (au (i:=6) sc.nd rfl (Or.inr rfl))
   (ai (ba (dU PySem.F.plainAttrs_list PySem.F.slot_list_extend PySem.F.type_list_extend lT (ak 5) (aa (bW ["link"] [6] rfl (bv.of (by kernel_rfl)) (by kernel_rfl) (aR (ak 0))
    (λ_ _ _ _=>(au (i:=0) (by show(["link","chain"]:List Str).Nodup;decide +kernel) rfl (Or.inl rfl))) (λ_ _ _ _=>bQ) (λ_ _ _ _=>(aF ia (ak 1) (ak 0)))) ac)))))
   (ai (q01 3 sc.nd (ak 5))))))
   (ai (aG (ak 3))))),?_⟩
   symm;refine⟨ar nofun,λl1 Y=>h1 _ _ ?_⟩;clear h1;generalize z0:aD H l1 _=H1;obtain⟨s1,e1⟩:=i4 Y z0;symm;refine⟨⋯,⋯,?_⟩;rw[MJ];refine bK (lo:=0) (n:=n) (λi σ H'=>∃(M:Addr) (x4 L B:Option V),σ=[some (V.ref l),some (V.int (n:Int)),some (V.str (tx [])),some (V.ref M),x4,L,B]/\H M=none/\H' M=some (.lst ((qY (· ++ ·) d [] i).map mq))/\ax H H'/\∀y∈qY (· ++ ·) d [] i,y.length<=i) ⟨l1,_,_,_,rfl,Y,e1,s1,λy m=>by rw[Mz.mp m];exact MZ _⟩ ?_ ?_
   ·rintro i σ H2 hi ⟨M,x4,L,B,rfl,U,G,C,D⟩
    ac_nf;refine⟨MZ _,λJ g=>h2 _ _ ?_⟩;clear h2;generalize z2:aD H2 J _=H3;obtain⟨Z,e3⟩:=i4 g z2;have hlen:=lC (· ++ ·) d [] (i+1);have a0:d.length ^ (i+1)<=300\/d.length=0:=by
     rcases Nat.eq_zero_or_pos d.length with h | h
     ·exact .inr h
     ·exact .inl (M9 (Nat.pow_le_pow_right h hi) pw)
    ac_nf;refine⟨⟨_,aI.of (Z _ _ G)⟩,?_⟩;refine bz (xs:=(qY (· ++ ·) d [] i).map mq) (λj σ H'=>∃(L B:Option V),σ=[some (V.ref l),some (V.int (n:Int)),some (V.str (tx [])),some (V.ref M),some (V.int (i:Int)),some (V.ref J),B]/\H' J=some (.lst ((((qY (· ++ ·) d [] i).take j).flatMap λc=>d.map (c ++ ·)).map mq))/\a_ J H3 H') ⟨none,_,rfl,e3,a_.of λ_ _ h=>h⟩ (λj σ H' _ h=>by
     obtain⟨_,_,_,_,I⟩:=h;exact aI.of (I _ _ (λe=>by rw[e]at G;rw[g]at G;cases G) (Z _ _ G))) ?_ ?_
    ·rintro j x σ H4 hx ⟨L,B,rfl,e4,I⟩
     rw[MA]at hx;obtain⟨c,R,rfl⟩:=M5.mp hx;ext;have a7:l≠J:=λe=>by have:=C _ _ hl;rw[e,g]at this;cases this
     have T:=I _ _ a7 (Z _ _ (C _ _ hl));have a8:=D c (MB R);have hb:=vU (· ++ ·) d [] i j;have hb2:((((qY (· ++ ·) d [] i).take j).flatMap λc=>d.map (c ++ ·)).map mq).length<=300:=by
      rw[My];rcases a0 with h | h
      ·exact M9 hb h
      ·rw[h,Nat.pow_succ,Nat.mul_zero]at hb;omega
     refine⟨.inl ⟨rfl,_,aI.of e4⟩,⟨_,aI.of T⟩,d0 (as:=d) (emb:=mq) (f:=λy=>some (mq (c++y))) (λσ=>∃x,σ=[x,some (mq c)]) ⟨_,rfl⟩ (λH5 v=>aI.of (v _ _ T)) ⋯ ?_ ?_⟩
     ·rintro k y m σ H5 M1 M0 ⟨x0,rfl⟩ v k1 k0
      have a5:=O y (MB m);ext;refine⟨by rw[aw,aw];exact ar ⋯,?_⟩;rw[FZ];exact k1 _ _ _ rfl v ⟨_,rfl⟩
     ·intro H5 v l4 r
      have u:=v _ _ e4;have S:J≠l4:=λe=>by rw[e,r]at u;cases u
      have ef:List.filterMap (λy=>some (mq (c++y))) d=(d.map (c ++ ·)).map mq:=by
       rw[MP];exact congrFun (List.filterMap_eq_map (f:=λy=>mq (c++y))) d
      rw[ef];refine⟨_,by rw[aq S];exact u,_,ae,?_,?_,((I.then v).then (af r)).put⟩
      ·refine M9 (Nl (Nat.le_of_eq (by rw[My,My])) _) (ar ⋯)
      ·rw[ae,q0E,R,List.flatMap_append,MN]
       congr 3
       simp
    ·rintro σ H4 ⟨L,B,rfl,e4,I⟩
     refine h2 _ _ ?_;ext;rw[My,Nd]at e4;have s4:ax H H4:=λb o h=>I b o (λe=>by have:=C b o h;rw[e,g]at this;cases this) (Z b o (C b o h));refine⟨C.free g,e4,s4,λy m=>?_⟩;obtain⟨c,R,m⟩:=List.mem_flatMap.mp m;obtain⟨z,hz,rfl⟩:=Nj.mp m;have:=D c R;have:=O z hz;rw[MX];omega
   ·rintro σ H2 ⟨M,x4,L,B,rfl,U,G,C,D⟩
    refine h1 _ _ ?_;ext;exact q _ _ U G C
  ·refine⟨_,(ad (q01 3 sc.nd (bh (aa (ak 2) ac)))
   (ad (aX PassesOwn.never rfl (bP rfl nb.range (aa (ak 1) ac)) (q02 4 sc.nd)
   (ad (q01 5 sc.nd (bh ac))
   (ad (aX PassesOwn.never rfl (aR (ak 3)) (au (i:=6) sc.nd rfl (Or.inr rfl))
   (ai (ba (dU PySem.F.plainAttrs_list PySem.F.slot_list_extend PySem.F.type_list_extend lT (ak 5) (aa (bW ["link"] [6] rfl (bv.of (by kernel_rfl)) (by kernel_rfl) (aR (ak 0))
    (λ_ _ _ _=>(au (i:=0) (by show(["link","chain"]:List Str).Nodup;decide +kernel) rfl (Or.inl rfl))) (λ_ _ _ _=>bQ) (λ_ _ _ _=>(aF xv (ak 1) (ak 0)))) ac)))))
   (ai (q01 3 sc.nd (ak 5))))))
   (ai (aG (ak 3))))),?_⟩
   symm;refine⟨ar nofun,λl1 Y=>h1 _ _ ?_⟩;clear h1;generalize z0:aD H l1 _=H1;obtain⟨s1,e1⟩:=i4 Y z0;symm;refine⟨⋯,⋯,?_⟩;rw[MJ];refine bK (lo:=0) (n:=n) (λi σ H'=>∃(M:Addr) (x4 L B:Option V) (bs:NC),σ=[some (V.ref l),some (V.int (n:Int)),some (V.ref e),some (V.ref M),x4,L,B]/\H M=none/\H' M=some (.lst (bs.map V.ref))/\aL jB H' bs (qY (· ++ ·) d [] i)/\ax H H'/\∀y∈qY (· ++ ·) d [] i,y.length<=i) ⟨l1,_,_,_,[e],rfl,Y,e1,aL.one (s1 _ _ he),s1,λy m=>by rw[Mz.mp m];exact MZ _⟩ ?_ ?_
   ·rintro i σ H2 hi ⟨M,x4,L,B,bs,rfl,U,G,b2,C,D⟩
    ac_nf;refine⟨MZ _,λJ g=>h2 _ _ ?_⟩;clear h2;generalize z2:aD H2 J _=H3;obtain⟨Z,e3⟩:=i4 g z2;have a0:d.length ^ (i+1)<=300:=M9 (Nat.pow_le_pow_right l0 hi) pw;have hll:d.length<=300:=by
     have:=Nat.pow_le_pow_right l0 (show 1<=i+1 by omega);rw[Nat.pow_one]at this;omega
    ac_nf;refine⟨⟨_,aI.of (Z _ _ G)⟩,?_⟩;refine bz (xs:=bs.map V.ref) (λj σ H'=>∃(L B:Option V) (cs:NC),σ=[some (V.ref l),some (V.int (n:Int)),some (V.ref e),some (V.ref M),some (V.int (i:Int)),some (V.ref J),B]/\H' J=some (.lst (cs.map V.ref))/\aL jB H' cs (((qY (· ++ ·) d [] i).take j).flatMap λc=>d.map (c ++ ·))/\a_ J H3 H') ⟨none,_,[],rfl,e3,aL.nil,a_.of λ_ _ h=>h⟩ (λj σ H' _ h=>by
     obtain⟨_,_,_,_,_,_,I⟩:=h;exact aI.of (I _ _ (λe=>by rw[e]at G;rw[g]at G;cases G) (Z _ _ G))) ?_ ?_
    ·rintro j x σ H4 hx ⟨L,B,cs,rfl,e4,b4,I⟩
     rw[MA]at hx;obtain⟨b,a9,rfl⟩:=M5.mp hx;obtain⟨c,R,a1⟩:=b2.get a9;ext;have s4:ax H H4:=λb o h=>I b o (λe=>by have:=C b o h;rw[e,g]at this;cases this) (Z b o (C b o h));have T:=s4 _ _ hl;have a4:jB H4 b c:=I _ _ (λe=>by rw[e]at a1;rw[show H2 J=_ from a1]at g;cases g) (Z _ _ a1);have a8:=D c (MB R);have hb:=vU (· ++ ·) d [] i j;refine⟨.inl ⟨rfl,_,aI.of e4⟩,⟨_,aI.of T⟩,fz jB (λh s=>s _ _ h) (as:=as) (emb:=V.ref) (ys:=d.map (c ++ ·)) (by rw[My];exact hA.1) (λσ=>∃x,σ=[x,some (V.ref b)]) ⟨_,rfl⟩ (λH5 v=>aI.of (v _ _ T)) (by rw[hA.1];omega) ?_ ?_⟩
     ·rintro k a z ha hz σ H5 M1 M0 ⟨x0,rfl⟩ v k1
      rw[MA]at hz;obtain⟨y,m,rfl⟩:=M5.mp hz;have a5:=O y (MB m);have a6:=v _ _ (s4 _ _ (hA.2 k a y ha m));have a3:=v _ _ a4;ext;refine⟨_,a3,_,a6,by rw[ao,ao];exact ar ⋯,λp hp=>?_⟩;exact k1 p _ _ (by show aD _ _ _ _=_;rw[ae];unfold av;rw[MN]) (v.trans (af hp)) (af hp) ⟨_,rfl⟩
     ·intro ds H5 v hD l4 r
      have u:=v _ _ e4;have S:J≠l4:=λe=>by rw[e,r]at u;cases u
      have a2:∀y∈(qY (· ++ ·) d [] i).flatMap (λc=>d.map (c ++ ·)),0<y.length:=λy m=>by
       obtain⟨c,_,m⟩:=List.mem_flatMap.mp m;obtain⟨z,hz,rfl⟩:=Nj.mp m;rw[MX,O z hz];omega
      have keep:∀{b:Addr} {y:aB},jB H5 b y->0<y.length->jB (aD (aD H5 l4 (.lst (ds.map V.ref))) J (.lst (cs.map V.ref++ds.map V.ref))) b y:=fun{b y} h h0=>by
       show aD _ _ _ _=_;rw[aq (Db h h0 u),aq (λe=>by rw[e]at h;rw[show H5 l4=_ from h]at r;cases r)];exact h
      refine⟨_,by rw[aq S];exact u,_,ae,?_,cs++ds,by rw[ae,MN],?_,((I.then v).then (af r)).put⟩
      ·rw[My,My,b4.1,hD.1,My];exact ar ⋯
      ·rw[q0E,R,List.flatMap_append]
       refine aL.both (b4.mono λb y _ m h=>keep (v _ _ h) (a2 y ?_)) ?_
       ·obtain⟨c,R,m⟩:=List.mem_flatMap.mp m
        exact List.mem_flatMap.mpr ⟨c,q0H R,m⟩
       ·have e:List.flatMap (λc=>d.map (c ++ ·)) (some c).toList=d.map (c ++ ·):=by simp
        rw[e];exact hD.mono λb y _ m h=>keep h (a2 y (List.mem_flatMap.mpr ⟨c,MB R,m⟩))
    ·rintro σ H4 ⟨L,B,cs,rfl,e4,b4,I⟩
     refine h2 _ _ ?_;ext;rw[My,b2.1,Nd]at b4;have s4:ax H H4:=λb o h=>I b o (λe=>by have:=C b o h;rw[e,g]at this;cases this) (Z b o (C b o h));refine⟨C.free g,cs,e4,b4,s4,λy m=>?_⟩;obtain⟨c,R,m⟩:=List.mem_flatMap.mp m;obtain⟨z,hz,rfl⟩:=Nj.mp m;have:=D c R;have:=O z hz;rw[MX];omega
   ·rintro σ H2 ⟨M,x4,L,B,bs,rfl,U,G,b2,C,D⟩
    refine h1 _ _ ?_;ext;exact q _ _ _ U G b2 C
def iZ(ss:Ny)(c:Nat):List (List Nat):=qY (· ++ ·) (ss.map λs=>[s]) [] c
def jZ(ss:Ny)(r c:Nat):List aB:=qY (· ++ ·) ((iZ ss c).map λt=>[t]) [] r
theorem lR(ss:Ny)(c:Nat):(iZ ss c).length=ss.length ^ c:=by unfold iZ;rw[lC,My]
theorem wD(ss:Ny)(r c:Nat):(jZ ss r c).length=ss.length ^ (c*r):=by unfold jZ;rw[lC,My,lR,<- Nat.pow_mul]
theorem jy{ss:Ny}{x:Ny}:∀{c:Nat},x∈iZ ss c↔x.length=c/\∀s∈x,s∈ss
 |0=>by
  show x∈[[]]↔_;rw[Mz]
  constructor
  ·rintro rfl;exact⟨rfl,λs h=>nomatch h⟩
  ·rintro⟨h,_⟩;exact Ni.mp h
 |c+1=>by
  show x∈(iZ ss c).flatMap (λt=>(ss.map λs=>[s]).map (t ++ ·))↔_;rw[List.mem_flatMap]
  constructor
  ·rintro⟨t,ht,hx⟩
   obtain⟨_,hs,rfl⟩:=Nj.mp hx;obtain⟨s,hs2,rfl⟩:=Nj.mp hs;obtain⟨h1,h2⟩:=jy.mp ht;refine⟨by rw[MX,h1];rfl,λy hy=>?_⟩;rcases MO.mp hy with h | h
   ·exact h2 y h
   ·rw[Mz.mp h];exact hs2
  ·rintro⟨h1,h2⟩
   have h0:x≠[]:=λe=>by rw[e]at h1;cases h1
   refine⟨x.dropLast,jy.mpr ⟨by rw[List.length_dropLast,h1];rfl,λs hs=>h2 s ((List.dropLast_sublist _).subset hs)⟩,Nj.mpr ⟨[x.getLast h0],Nj.mpr ⟨_,h2 _ (List.getLast_mem h0),rfl⟩,List.dropLast_concat_getLast h0⟩⟩
theorem fH{ss:Ny}{p:aB}:∀{r:Nat},p∈jZ ss r c↔rect p r c/\∀x∈p,∀s∈x,s∈ss
 |0=>by
  show p∈[[]]↔_;rw[Mz]
  constructor
  ·rintro rfl;exact⟨⟨rfl,λx h=>nomatch h⟩,λx h=>nomatch h⟩
  ·rintro⟨h,_⟩;exact Ni.mp h.1
 |r+1=>by
  show p∈(jZ ss r c).flatMap (λt=>((iZ ss c).map λt=>[t]).map (t ++ ·))↔_;rw[List.mem_flatMap]
  constructor
  ·rintro⟨t,ht,hx⟩
   obtain⟨_,hs,rfl⟩:=Nj.mp hx;obtain⟨s,hs2,rfl⟩:=Nj.mp hs;obtain⟨h1,h2⟩:=fH.mp ht;obtain⟨h3,h4⟩:=jy.mp hs2;refine⟨⟨by rw[MX,h1.1];rfl,λy hy=>?_⟩,λy hy=>?_⟩
   ·rcases MO.mp hy with h | h
    ·exact h1.2 y h
    ·rw[Mz.mp h];exact h3
   ·rcases MO.mp hy with h | h
    ·exact h2 y h
    ·rw[Mz.mp h];exact h4
  ·rintro⟨h1,h2⟩
   have h0:p≠[]:=λe=>by have:=h1.1;rw[e]at this;cases this
   refine⟨p.dropLast,fH.mpr ⟨⟨by rw[List.length_dropLast,h1.1];rfl,λx hx=>h1.2 x ((List.dropLast_sublist _).subset hx)⟩,λx hx=>h2 x ((List.dropLast_sublist _).subset hx)⟩,Nj.mpr ⟨[p.getLast h0],Nj.mpr ⟨_,jy.mpr ⟨h1.2 _ (List.getLast_mem h0),h2 _ (List.getLast_mem h0)⟩,rfl⟩,List.dropLast_concat_getLast h0⟩⟩
theorem E5{zs:NG}(h:zs.Perm ((tx sg).cps.toList.map λc=>(⟨#[c]⟩:Str)))(hs:zs.Pairwise λa b=>¬ b.cps.toList<a.cps.toList):∃ss:List Nat,zs=ss.map (λc=>(⟨#[c]⟩:Str))/\ss.Perm sg/\ss.Pairwise (·<=·):=by
 rw[cE]at h;have d:zs=(zs.map λz=>z.cps.toList.headD 0).map λc=>(⟨#[c]⟩:Str):=by
  rw[MP];refine(List.map_id _).symm.trans (q0K λz e=>?_);obtain⟨c,_,rfl⟩:=Nj.mp (h.mem_iff.mp e)
  rfl
 refine⟨zs.map λz=>z.cps.toList.headD 0,d,?_,?_⟩
 ·refine(h.map _).trans ?_
  rw[MP];exact List.Perm.of_eq ((q0K λc _=>rfl).trans (List.map_id _))
 ·rw[d,List.pairwise_map]at hs
  rw[List.pairwise_map]at hs ⊢;refine hs.imp fun{a b} hab=>?_;have:¬ [b.cps.toList.headD 0]<[a.cps.toList.headD 0]:=hab;rw[List.cons_lt_cons_iff]at this;omega
abbrev fA:Stmt:=eU 63
inductive ip(K:W.Frag)(vs:List V)(H:Hp)(Q:VK)(_E:XK):Prop
 |mk (sg:Ny) (r c:Nat) (_:vs=[.str (tx sg),.int (r:Int),.int (c:Int)]) (_:1<=r) (_:r<=6) (_:1<=c) (_:c<=6) (_:1<=sg.length) (_:sg.length<=4) (_:sg.length ^ (r*c)<=300) (_:∀l' H' bs ss,H l'=none->ss.Perm sg->ss.Pairwise (·<=·)->H' l'=some (.lst (bs.map V.ref))->aL jB H' bs (jZ ss r c)->ax H H'->Q (.ref l') H')
theorem nI:az ["signs","rows","columns","texts"] ["signs","rows","columns"] (am fA):=by walk_at "c"
theorem nO{f:Addr}(F:c8 K "all_pictures" "all_pictures" fA f fd)(nb:NB mg){tkM:Tok}(yau:mg "MOST"=some (.int 6 tkM))(yat:↑df 1 "chains" ["links","many","nothing"] (r_ K)):↑aV 2 f fd ["signs","rows","columns"] (ip K):=by
 have sc:=nI;walk_at "f"
 ·obtain⟨n,r,c,rfl,r1,r6,c1,c6,g1,g4,U,q⟩:=h
  have hu:=hr.units;refine⟨_,(ad (bB (dE (PW.pt (iQ (vQ (bC.m0 iy) (bC.m0 iy) aj (ak 1) (cH (v:=.int 6) rfl yau ⟨_,rfl⟩)) (jk (vQ (bC.m0 iy) (bC.m0 iy) aj (ak 2) (cH (v:=.int 6) rfl yau ⟨_,rfl⟩))))))
   (ai (aG (bh ac)))
   aO)
   (ad (q01 3 sc.nd (aH yat (hr.mono nofun) rfl aM (aa (aC (yj rfl) rfl nb.sorted Ak (aa (ak 0) ac)) (aa (ak 2) (iR ac)))))
   (ai (aG (aH yat (hr.mono nofun) rfl aM (aa (bW ["text"] [] rfl (bv.of (by kernel_rfl)) (by kernel_rfl) (aR (ak 3))
    (λ_ _ _ _=>(au (i:=0) (by show(["text"]:List Str).Nodup;decide +kernel) rfl (Or.inl rfl))) (λ_ _ _ _=>bQ) (λ_ _ _ _=>(bh (aa (ak 0) ac)))) (aa (ak 1) (aa (bh ac) ac)))))))),?_⟩
  symm;rw[q07 ⋯,q07 ⋯,q07 ⋯,q06 ⋯];refine h1 _ _ ?_;grind;refine⟨by rw[aw];omega,λzs C B Z M=>?_⟩;obtain⟨d,rfl,m,hs⟩:=E5 C B;generalize z0:aD H Z _=H1;obtain⟨u,e1⟩:=i4 M z0;have e:d.length=n.length:=m.length_eq;have O:c*r=r*c:=Nat.mul_comm _ _;have pc:n.length ^ c<=300:=M9 (Nat.pow_le_pow_right g1 (by have:=Nat.mul_le_mul_right c r1;omega)) U;refine .T Z (d.map λs=>[s]) c rfl (by rw[e1,MP,MP];rfl) c6 (λx D=>by obtain⟨s,_,rfl⟩:=Nj.mp D;exact MY _) (by rw[My];omega) (by rw[My,e];exact pc) λl2 H2 J e2 s2=>?_;have hl20:=u.free J;refine h1 _ _ ?_;clear h1;ext;refine⟨⟨_,aI.of e2⟩,fz jB (λh s=>s _ _ h) (as:=iZ d c) (emb:=mq) (ys:=(iZ d c).map λt=>[t]) (by rw[My]) (λσ=>∃x,σ=[x]) ⟨_,rfl⟩ (λR g=>aI.of (g _ _ e2)) (by rw[lR,e];omega) ?_ ?_⟩
  ·rintro k t z ht hz σ R M1 M0 ⟨x0,rfl⟩ g k1
   rw[MA,ht]at hz;cases hz;ext;refine⟨ar nofun,λp m=>?_⟩;exact k1 p _ _ ae (g.trans (af m)) (af m) ⟨_,rfl⟩
  ·intro ds R g hD Y I
   refine⟨MZ _,λp l=>?_⟩;generalize z1:aD R Y _=H6 at l ⊢;obtain⟨S,e6⟩:=i4 I z1;generalize z2:aD H6 p _=H7;obtain⟨o,e7⟩:=i4 l z2;have j:ax H1 H7:=s2.trans (g.trans (S.trans o));have a:((iZ d c).map λt=>[t]).length=n.length ^ c:=by rw[My,lR,e]
   refine .L Y p ((iZ d c).map λt=>[t]) ds r rfl (o _ _ e6) (hD.mono λb y _ _ h=>o _ _ (S _ _ h)) e7 r6 (λx D=>by obtain⟨t,_,rfl⟩:=Nj.mp D;rfl) (by rw[a,<- Nat.pow_mul,O];exact U) (by rw[a];exact Nat.pow_pos g1) λl5 H8 bs G e8 b8 s8=>?_;exact q l5 H8 bs d (u.free (j.free G)) m hs e8 b8 (u.trans (j.trans s8))
def Mn(rs:Yaa)(k:Ky)(v:Int):Prop:=Dv rs k v/\∀v',Dv rs k v'->v<=v'
theorem Mn.uniq(h:Mn rs k v)(h':Mn rs k v'):v=v':=Int.le_antisymm (h.2 _ h'.1) (h'.2 _ h.1)
inductive sf(rs:Yaa)(nm:Ny):List aB->List (aB×Int)->Prop
 |nil:sf rs nm [] []
 |hit {ps fs} (p v) (_:sf rs nm ps fs) (_:Mn rs (bc p,nm) v):sf rs nm (ps++[p]) (fs++[(p,v)])
 |miss {ps fs} (p) (_:sf rs nm ps fs) (_:∀v,¬ Dv rs (bc p,nm) v):sf rs nm (ps++[p]) fs
theorem sf.len{nm:Ny}{ps:List aB}{fs:List (aB×Int)}(h:sf rs nm ps fs):fs.length<=ps.length:=by
 induction h with
 |nil=>exact MY _
 |hit p v _ _ ih=>rw[MX,MX];simpa using ih
 |miss p _ _ ih=>rw[MX];omega
theorem sf.mem{nm:Ny}{ps:List aB}{fs:List (aB×Int)}(h:sf rs nm ps fs):∀y∈fs,y.1∈ps:=by
 induction h with
 |nil=>intro y h;exact nomatch h
 |hit p v _ _ ih=>
  intro y a;rcases MO.mp a with h | h
  ·exact MO.mpr (.inl (ih y h))
  ·rw[Mz.mp h];exact MO.mpr (.inr q0B)
 |miss p _ _ ih=>intro y a;exact MO.mpr (.inl (ih y a))
def iC(H:Hp)(t:Addr)(x:aB×Int):Prop:=∃b,H t=some (.tup [.ref b,.int x.2])/\jB H b x.1
theorem iC.up{t:Addr}(h:iC H t x)(s:ax H H'):iC H' t x:=let ⟨b,h1,h2⟩:=h;⟨b,s _ _ h1,s _ _ h2⟩
structure F5(rs:Yaa)(nms:List (List Nat))(sg:Ny)(r c:Nat):Prop where
 r1:1<=r
 r6:r<=6
 c1:1<=c
 c6:c<=6
 g1:1<=sg.length
 g4:sg.length<=4
 sl:∀s∈sg,s≠47
 gd:∀x∈rs,jP x
 nm:∀x∈rs,x.2.n∈nms
 n8:nms.length<=8
 r24:rs.length<=24
 few:sg.length ^ (r*c)<=300->∀p,rect p r c->(∀x∈p,∀s∈x,s∈sg)->Gu p r c
theorem Ec{g r c:Nat}(hg:g<=4)(hr:r<=6)(hc:c<=6)(h:g ^ (r*c)<=300):g ^ (r*c)*(64*(dJ r c).length)<=990000:=by
 have:∀g,g<5->∀r,r<7->∀c,c<7->g ^ (r*c)<=300->g ^ (r*c)*(64*(dJ r c).length)<=990000:=by decide +kernel
 exact this g ⋯ r ⋯ c ⋯ h
abbrev gt:Stmt:=eU 61
inductive fM(K:W.Frag)(R:RC)(CG CN_ CM:Addr)(vs:List V)(H:Hp)(Q:VK)(E:XK):Prop
 |mk (g dx:Addr) (sg st nm:Ny) (as:NC) (rs:Yaa) (nms:List (List Nat)) (r c:Nat) (_:vs=[.ref g,.str (tx nm),.int (r:Int),.int (c:Int)]) (_:cL R H CG dx g sg st as rs) (_:(bb (tx st) rs).map (·.1)=nms.map tx) (_:F5 rs nms sg r c) (_:(nm∉nms->E (.ref CN_) none H)) (_:(nm∈nms->300<sg.length ^ (r*c)->∀H',ax H H'->E (.ref CM) none H')) (_:(nm∈nms->sg.length ^ (r*c)<=300->∀l H' ts fs ss,H l=none->ss.Perm sg->ss.Pairwise (·<=·)->sf rs nm (jZ ss r c) fs->H' l=some (.lst (ts.map V.ref))->aL iC H' ts fs->ax H H'->Q (.ref l) H'))
theorem pB:az ["grammar","name","rows","columns","found","told","done","picture","key"] ["grammar","name","rows","columns"] (am gt):=by walk_at "c"
theorem oE{f CN_ CM:Addr}(F:c8 K "pictures_of" "pictures_of" gt f fd)(nb:NB mg)(cl:iF K CG)(na:ay K CG "signs"/\ay K CG "start"/\ay K CG "kept"/\ay K CG "numbers"){tkM:Tok}(yaY:mg "MOST_PICTURES"=some (.int 300 tkM))(yan:mg "TooMany"=some (.ref CM))(yaU:XR K CM)(yas:ij P w K mg base (j6 P w) 1 CG "numbers_of" ["self","name"] (cS R CG CN_))(yaO:↑df 1 "how_many" ["signs","rows","columns"] mZ)(yaG:↑df 2 "all_pictures" ["signs","rows","columns"] (ip K))(yaq:↑df 9 "enter_seen" ["grammar","picture","told","done"] (gl K R CG))(yab:↑df 1 "shown" ["picture"] (dR K)):aV P w K mg base (j6 P w) 10 f fd ["grammar","name","rows","columns"] (fM K R CG CN_ CM):=by
 have sc:=pB;walk_at "x"
 ·obtain⟨g,dx,L,st,nm,as,rs,M,r,c,rfl,_⟩:=h;rfl
 ·obtain⟨g,dx,L,st,nm,as,rs,M,r,c,rfl,hG,b1,a,qN,qM,q⟩:=h
  have hu:=hr.units;obtain⟨lk,pn,t,ha,hk,hrs,hN,hm⟩:=id hG;refine⟨_,(ad (ba (kW yas (hr.mono nofun) (mv λ_ _ _ h=>h) (ak 0) (aa (ak 1) ac)))
   (ad (bB (aK (bC.m0 mX) (aH (CX:=j6 P w) yaO.lift (hr.mono nofun) rfl dt (aa (bE (ak 0) rfl) (aa (ak 2) (aa (ak 3) ac)))) (cH (v:=.int 300) rfl yaY ⟨_,rfl⟩) (aZ _))
   (ai (sS yaU rfl rfl yan (wM λ_ _ _ h=>h) (iR ac)))
   aO)
   (ad (q01 4 sc.nd (bh ac))
   (ad (q01 5 sc.nd vh)
   (ad (q01 6 sc.nd pR)
   (ad (aX PassesOwn.leaving rfl (aR (aH (CX:=j6 P w) yaG.lift (hr.mono nofun) rfl dt (aa (bE (ak 0) rfl) (aa (ak 2) (aa (ak 3) ac))))) (q02 7 sc.nd)
   (ad (ba (aH (CX:=j6 P w) yaq.lift (hr.mono nofun) rfl dt (aa (ak 0) (aa (ak 7) (aa (ak 5) (aa (ak 6) ac))))))
   (ad (q01 8 sc.nd (bH (aa (aH (CX:=j6 P w) yab.lift (hr.mono nofun) rfl dt (aa (ak 7) ac)) (aa (ak 1) ac))))
   (ai (bB (mH (ye (Nh (Nl (by decide:1<=64) _) hu) (ak 8) (ak 5)) (by with_unfolding_all rfl))
   (ai (ba (dU PySem.F.plainAttrs_list PySem.F.slot_list_append PySem.F.type_list_append cg (ak 4) (aa (bH (aa (ak 7) (aa (kR (Nh (Nl (by decide:1<=64) _) hu) (ak 5) (ak 8) (λ_ _=>rfl)) ac))) ac))))
   aO)))))
   (ai (aG (ak 4))))))))),?_⟩
  symm;refine⟨_,_,ha,rfl,g,dx,L,st,as,rs,tx nm,rfl,hG,λns e0 l0 H1 _ _ s1=>?_,λe2=>qN λhm=>?_⟩
  ·have e3:nm∈M:=by
    have:tx nm∈(bb (tx st) rs).map (·.1):=Classical.byContradiction λhm=>by rw[iY hm]at e0;cases e0
    rw[b1]at this;obtain⟨m,hm,e⟩:=Nj.mp this;rw[<- cT e];exact hm
   refine h1 _ _ ?_;clear h1;have e7:=s1 _ _ ha;symm;refine⟨_,_,_,e7,cl,na.1,_,rfl,tx L,r,c,rfl,by rw[aw];exact a.g4,a.r6,a.c6,_,rfl,?_⟩;rw[aw]
   by_cases n:300<L.length ^ (r*c)
   ·rw[q07 (by exact_mod_cast n)]
    exact⟨ar nofun,qM e3 n H1 s1⟩
   rw[q06 (by intro h;exact n (by exact_mod_cast h))];have a2:L.length ^ (r*c)<=300:=Nat.le_of_not_lt n;have q:=q e3 a2;refine h1 _ _ ?_;grind;refine⟨MZ _,λk a3=>h1 _ _ ?_⟩;clear h1;generalize z2:aD H1 k _=H2;obtain⟨s2,f2⟩:=i4 a3 z2;symm;refine λd hd=>h1 _ _ ?_;clear h1;generalize z3:aD H2 d _=H3;obtain⟨s3,g7⟩:=i4 hd z3;symm;refine λe he=>h1 _ _ ?_;clear h1;generalize z4:aD H3 e _=H4;obtain⟨s4,g6⟩:=i4 he z4;have c4:ax H1 H4:=s2.trans (s3.trans s4);symm;refine⟨_,_,_,c4 _ _ e7,cl,na.1,_,rfl,L,r,c,rfl,a.r1,a.r6,a.c1,a.c6,a.g1,a.g4,a2,λl5 H5 bs ss b3 U f4 G b5 s5=>⟨l5,rfl,⟨_,aI.of G⟩,?_⟩⟩;have f7:ss.length=L.length:=U.length_eq;have hN:(jZ ss r c).length=L.length ^ (r*c):=by rw[wD,f7,Nat.mul_comm]
   have hW:L.length ^ (r*c)*(64*(dJ r c).length)<=990000:=Ec a.g4 a.r6 a.c6 a2;generalize b0:jZ ss r c=ps at b5 hN q;have j:∀p∈ps,rect p r c/\bL p:=λp hp=>by
    rw[<- b0]at hp;obtain⟨h1,h2⟩:=fH.mp hp;exact⟨h1,λrow d7 g5=>a.sl 47 (U.mem_iff.mp (h2 row d7 47 g5)) rfl⟩
   have g3:∀p∈ps,kZ rs M p r c:=λp hp=>⟨(j p hp).1,a.r1,a.c1,a.r6,a.c6,(j p hp).2,a.gd,a.nm,a.n8,a.r24,a.few a2 p (j p hp).1 λx hx s hs=>U.mem_iff.mp ((fH.mp (by rw[b0];exact hp)).2 x hx s hs)⟩;have hD:∀q,(∃p∈ps,bf p r c q)->vc q:=λq ⟨p,hp,h⟩=>eN (j p hp).1 (j p hp).2 h;have l:H5 d=some (.dT []):=s5 _ _ (s4 _ _ g7);have J:H5 e=some (.dK []):=s5 _ _ g6;have I:H5 k=some (.lst []):=s5 _ _ (s4 _ _ (s3 _ _ f2));have d1:H1 d=none:=s2.free hd;have e1:H1 e=none:=(s2.trans s3).free he;have c3:ax H1 H5:=c4.trans s5;have d3:k≠d:=λz=>by rw[z,l]at I;cases I
   have d2:k≠e:=λz=>by rw[z,J]at I;cases I
   have nde:d≠e:=λz=>by rw[z,J]at l;cases l
   have fr:∀{b:Addr} {p:aB},jB H5 b p->p∈ps->b≠d/\b≠e/\b≠k:=fun{b p} h hp=>by
    refine⟨λz=>?_,λz=>?_,λz=>?_⟩
    ·rw[z]at h;rw[show H5 d=_ from h]at l;cases l
    ·rw[z]at h;rw[show H5 e=_ from h]at J;cases J
    ·exact Db (as:=[]) h (by rw[(j p hp).1.1];exact a.r1) I z
   refine bz (xs:=bs.map V.ref) (λi σ H'=>∃(x7 x8:Option V) (tb:Tb) (dn:NG) (Y:NC) (fs:List (aB×Int)),σ=[some (V.ref g),some (V.str (tx nm)),some (V.int (r:Int)),some (V.int (c:Int)),some (V.ref k),some (V.ref d),some (V.ref e),x7,x8]/\cj H' d tb/\H' e=some (.dK (ThM.trueD dn))/\ES rs M (λq=>∃p∈ps,bf p r c q) dn tb/\dn.length<=i*(64*(dJ r c).length)/\H' k=some (.lst (Y.map V.ref))/\aL iC H' Y fs/\sf rs nm (ps.take i) fs/\∀b o,b≠d->b≠e->b≠k->H5 b=some o->H' b=some o) ⟨_,_,[],[],[],[],rfl,l,J,ES.nil,MZ _,I,aL.nil,.nil,λ_ _ _ _ _ h=>h⟩ (λi σ H' _ h=>?_) ?_ ?_
   ·obtain⟨_,_,_,_,_,_,_,_,_,_,_,_,_,_,kp⟩:=h
    exact aI.of (kp _ _ (λz=>by rw[z,l]at G;cases G) (λz=>by rw[z,J]at G;cases G) (λz=>by
     rw[z]at b3;rw[s4 _ _ (s3 _ _ f2)]at b3;cases b3) G)
   ·rintro i x σ H6 hx ⟨x7,x8,tb,dn,Y,fs,rfl,hT,D,hS,f9,b8,T,hF,kp⟩
    rw[MA]at hx;obtain⟨b,hb,rfl⟩:=M5.mp hx;obtain⟨p,hp,e5⟩:=b5.get hb;have O:=MB hp;have hi:i<ps.length:=(Mw.mp hp).1;obtain⟨d5,d4,f6⟩:=fr e5 O;have e6:jB H6 b p:=kp _ _ d5 d4 f6 e5;have f5:ax H1 H6:=λb o h=>kp b o (aA h d1) (aA h e1) (aA h a3) (c3 b o h);have g0:dn.length+64*(dJ r c).length<=990000:=by
     have:=Nat.mul_le_mul_right (64*(dJ r c).length) (show i+1<=L.length ^ (r*c) by omega);rw[Nat.add_mul,Nat.one_mul]at this;omega
    have Ep:=g3 p O;have small:eG p:=eG.of Ep.hp (by have:=a.r6;omega) (by have:=a.c6;omega);ac_nf;refine⟨g,dx,b,d,e,L,st,as,rs,M,p,r,c,_,dn,tb,H1,rfl,hG.up s1,f5,d1,e1,b1,Ep,hD,λq h=>⟨p,O,h⟩,aI.of e6,hT,D,hS,g0,λH7 c2 Z g2 e4 a6 hl7 f3 S=>?_⟩;refine h2 _ _ ?_;clear h2;have b4:jB H7 b p:=S _ _ d5 d4 e6;ac_nf;refine⟨b,p,rfl,b4,small,ar nofun,λtp a1=>h2 _ _ ?_⟩;clear h2;generalize z8:aD H7 tp _=H8;obtain⟨s8,e8⟩:=i4 a1 z8;have hk:bp H8 tp (bc p,nm):=e8;ext;have min:∀v',Dv rs (bc p,nm) v'->∃v,v<=v'/\aP Z (bc p,nm)=some v:=λv' a9=>vd Ep.hp Ep.ns (λx hx=>⟨(Ep.gd x hx).good.t0,(Ep.gd x hx).good.t7⟩) (λq hq=>a6.clo q ⟨p,O,hq⟩ (f3 q hq)) a9 p (bf.self Ep.hp Ep.r0 Ep.c0) rfl;have f1:=S _ _ d3 d2 b8;have C:=s8 _ _ f1;have a5:=g2.up s8;have ntb:tp≠b:=λz=>by rw[z]at a1;rw[show H7 b=_ from b4]at a1;cases a1
    have c9:∀{t:Addr} {y:aB×Int},t∈Y->y∈fs->iC H6 t y->iC H8 t y:=fun{t y} ht hy h=>by
     obtain⟨b2,B,h4⟩:=h;have a4:H6 d=some (.dT (tb.map qr)):=hT;refine⟨b2,s8 _ _ (S _ _ (λz=>?_) (λz=>?_) B),s8 _ _ (S _ _ (λz=>?_) (λz=>?_) h4)⟩
     ·rw[z]at B;rw[B]at a4;cases a4
     ·rw[z]at B;rw[B]at D;cases D
     ·rw[z]at h4;rw[show H6 d=_ from h4]at a4;cases a4
     ·rw[z]at h4;rw[show H6 e=_ from h4]at D;cases D
    have d6:∀b o,b≠d->b≠e->b≠k->H5 b=some o->H8 b=some o:=λb o h1 h2 B h=>s8 _ _ (S b o h1 h2 (kp b o h1 h2 B h));have a8:c2.length<=(i+1)*(64*(dJ r c).length):=by rw[Nat.add_mul,Nat.one_mul];omega
    have f0:ps.take (i+1)=ps.take i++[p]:=by rw[q0E,hp];rfl
    have f8:=hF.len;rw[Nf]at f8;have hN3:ps.length<=300:=by omega
    refine⟨_,a5.told.get hk,?_⟩;cases hg:aP Z (bc p,nm) with
    |none=>
     rw[q06 (by simp)];exact⟨Z,a5,c2,s8 _ _ e4,a6,a8,Y,C,fs,T.mono λt y h1 h2 h=>c9 h1 h2 h,(by rw[f0];exact .miss p hF λv hv=>by obtain⟨v2,_,h2⟩:=min v hv;rw[hg]at h2;cases h2),d6⟩
    |some v=>
     rw[q07 (by rfl)];refine⟨.inl ⟨rfl,_,aI.of C⟩,.int v,?_,ar nofun,λtq a0=>?_⟩
     ·have:=a5.told.get hk
      rw[hg]at this;exact this
     have ntl:tq≠k:=λz=>by rw[z,C]at a0;cases a0
     have a7:aD H8 tq (.tup [.ref b,.int v]) k=some (.lst (Y.map V.ref)):=af a0 _ _ C;have s9:ax H8 (aD H8 tq (.tup [.ref b,.int v])):=af a0;have e9:aD H8 tq (.tup [.ref b,.int v]) tq=some (.tup [.ref b,.int v]):=ae;generalize aD H8 tq (.tup [.ref b,.int v])=H9 at a7 s9 e9 ⊢;have put:∀{b:Addr} {o:HO} {u:HO},H9 b=some o->b≠k->aD H9 k u b=some o:=fun{b o u} h hb=>by rw[aq hb];exact h
     have c5:∀{t:Addr} {y:aB×Int} {u:HO},y.1∈ps->iC H9 t y->iC (aD H9 k u) t y:=fun{t y u} hy h=>by
      obtain⟨b2,B,h4⟩:=h;refine⟨b2,put B (λz=>by rw[z,a7]at B;cases B),put h4 (Db h4 (by rw[(j y.1 hy).1.1];exact a.r1) a7)⟩
     refine⟨_,a7,by rw[My,T.1];exact aY ⋯,Z,put (a5.up s9) (Ne.symm d3),c2,put (s9 _ _ (s8 _ _ e4)) (Ne.symm d2),a6,a8,Y++[tq],by rw[ae,MN];rfl,fs++[(p,v)],aL.snoc (T.mono λt y h1 h2 h=>c5 (q0H (hF.mem y h2)) ((c9 h1 h2 h).up s9)) (c5 O ⟨b,e9,s9 _ _ (s8 _ _ b4)⟩),?_,λb o h1 h2 B h=>put (s9 _ _ (d6 b o h1 h2 B h)) B⟩;rw[f0];refine .hit p v hF ⟨(a6.key _ _ hg).2.2.1,λv' a9=>?_⟩;obtain⟨v2,l2,h2⟩:=min v' a9;rw[hg]at h2;cases h2;exact l2
   ·rintro σ H6 ⟨x7,x8,tb,dn,Y,fs,rfl,hT,D,hS,f9,b8,T,hF,kp⟩
    refine h1 _ _ ?_;ext;rw[My,b5.1,Nd]at hF;exact q k H6 Y fs ss (s1.free a3) U f4 (by rw[b0];exact hF) b8 T λb o h=>kp b o (aA (s1 b o h) d1) (aA (s1 b o h) e1) (aA (s1 b o h) a3) (c3 b o (s1 b o h))
  ·have:tx nm∈(bb (tx st) rs).map (·.1):=by rw[b1];exact Nj.mpr ⟨nm,hm,rfl⟩
   rw[zf this]at e2;cases e2
abbrev pi:Stmt:=eU 66
inductive lO(K:W.Frag)(vs:List V)(H:Hp)(Q:VK)(_E:XK):Prop
 |mk (a:Addr) (ns:List Int) (k:Nat) (_:vs=[.ref a,.int (k:Int)]) (_:aI K H a (ns.map V.int)) (_:k<=1000) (_:∀c:Int,Q (.int c) H)
theorem Aq:az ["_law_script","_law_k","_law_cell_here","_law_mixed"] ["_law_script","_law_k"] (am pi):=by walk_at "c"
theorem A6{f:Addr}(F:c8 K "_law_cell" "_law_cell" pi f fd)(nb:NB mg):↑aV 1 f fd ["_law_script","_law_k"] (lO K):=by
 have sc:=Aq;walk_at "f"
 ·obtain⟨a,ns,k,rfl,hS,hk,q⟩:=h
  refine⟨_,(ad (q01 2 sc.nd aj)
   (ad (bB (og sH (pv 1) (aC rp rfl nb.len bi (aa (pv 0) ac)) (aZ _))
   (ai (q01 2 sc.nd (aN zL (pv 0) (pv 1) (λ_ _=>rfl))))
   aO)
   (ad (q01 3 sc.nd (aF bO (aF dz (aF bY (aF bY (aF bO (pv 2) aj) (aF dz aj (pv 1))) aj) aj) aj))
   (ai (aG (aF bY (aF dz (aF b7 (pv 2) aj) aj) (aF bO (aF bY (aF dz (pv 3) aj) (pv 1)) aj))))))),?_⟩
  ext;refine⟨_,hS,?_⟩;rw[My]
  split
  ·rename_i hlt
   have hlt':k<ns.length:=by omega
   refine⟨_,hS,V.int ns[k],bJ (by rw[MA,Mv hlt'];rfl),?_⟩;ext;exact q _
  ·exact q _
def Cb(d s m:Nat):List Nat:=(List.range (1+m)).map λi=>97+(d+(1+2*s)*i)%26
theorem E3:∀d,d<26->∀s,s<6->∀m,m<4->dy (Cb d s m)=true:=by decide +kernel
theorem F0:∀d,d<26->∀s,s<6->∀m,m<4->(Cb d s m).Nodup:=by decide +kernel
theorem B1:∀n,n<26->(Str.ofString "abcdefghijklmnopqrstuvwxyz").cps.toList[n]?=some (97+n):=by decide +kernel
theorem j7(h:dy r=true):1<=r.length/\r.length<=4:=by
 unfold dy at h;simp only[q0O,q0a]at h;exact⟨h.1.1.1,h.1.1.2⟩
abbrev mL:Stmt:=eU 69
inductive pK(vs:List V)(H:Hp)(Q:VK)(_E:XK):Prop
 |mk (c mo:Int) (_:vs=[.int c,.int mo]) (_:1<=mo) (_:mo<=4) (_:∀(r:Ny) (H':Hp),dy r=true->(r.length:Int)<=mo->r.Nodup->ax H H'->Q (.str (tx r)) H')
theorem yI:az ["_law_cell_here","_law_most","_law_letters","_law_step_here"] ["_law_cell_here","_law_most"] (am mL):=by walk_at "c"
theorem yl{f:Addr}(F:c8 K "_law_signs" "_law_signs" mL f fd)(nb:NB mg):↑aV 1 f fd ["_law_cell_here","_law_most"] pK:=by
 have sc:=yI;walk_at "f"
 ·obtain⟨c,j,rfl,mo1,mo4,q⟩:=h
  refine⟨_,(ad (aE (i:=2) sc.nd rfl (Or.inr rfl) qk)
   (ad (aE (i:=3) sc.nd rfl (Or.inr rfl) (aF (bC.m0 bY) aj (aF (bC.m1 dz) aj (aF (bC.m1 bO) (aF (bC.m1 b7) (ak 0) aj) aj))))
   (ai (aG (@vY _ _ _ _ _ _ _ _ (aa (bW ["_law_k"] [2,0,3] rfl (bv.of (by kernel_rfl)) (by kernel_rfl) (bP rfl nb.range (aa (aF (bC.m0 bY) aj (aF (bC.m1 bO) (aF (bC.m1 bO) (ak 0) aj) (ak 1))) ac))
    (λ_ _ _ _=>(au (i:=0) (by show(["_law_k","_law_letters","_law_cell_here","_law_step_here"]:List Str).Nodup;decide +kernel) rfl (Or.inl rfl))) (λ_ _ _ _=>bQ) (λ_ _ _ _=>(aN lJ (ak 1) (aF (bC.m1 bO) (aF (bC.m0 bY) (aF (bC.m1 b7) (ak 2) aj) (aF (bC.m1 dz) (ak 3) (ak 0))) aj) (λ_ _=>rfl)))) ac) rfl rfl))))),?_⟩
  obtain⟨m,C⟩:∃m:Nat,c%4%j=(m:Int):=⟨_,(Nq (No _ ⋯)).symm⟩;have mmo:(m:Int)<j:=by have:=Np (c%4) (b:=j) ⋯;omega
  obtain⟨e,k⟩:∃m:Nat,c/104%6=(m:Int):=⟨_,(Nq (No _ ⋯)).symm⟩;obtain⟨d,G⟩:∃m:Nat,c/4%26=(m:Int):=⟨_,(Nq (No _ ⋯)).symm⟩;have u:m<4:=by omega
  have r:e<6:=by omega
  have z:d<26:=by omega
  symm;refine h1 _ _ ?_;grind;rw[k];refine h1 _ _ ?_;clear h1;ext;rw[C];have I:(1+(m:Int)).toNat=1+m:=by omega
  rw[I];refine⟨rfl,⋯,⋯,⋯,?_⟩;have p:∀i:Nat,(c/4+(1+2*(e:Int))*(i:Int))%26=(((d+(1+2*e)*i)%26:Nat):Int):=λi=>by
   rw[Int.add_emod,G]
   push_cast
   rw[Int.add_emod (d:Int) ((1+2*(e:Int))*(i:Int)),Int.emod_eq_of_lt (a:=(d:Int)) ⋯ ⋯]
  refine mT (n:=1+m) (f:=λi=>some (V.str ⟨#[97+(d+(1+2*e)*i)%26]⟩)) (λσ=>∃x,σ=[x,some (.str "abcdefghijklmnopqrstuvwxyz"),some (.int c),some (.int (1+2*(e:Int)))]) ⟨_,rfl⟩ ⋯ ?_ ?_
  ·rintro i hi σ L N1 N0 ⟨y,rfl⟩ g B k0
   ext;refine⟨.inl ⟨⋯,⋯⟩,nofun,97+(d+(1+2*e)*i)%26,?_,B _ _ _ rfl g ⟨_,rfl⟩⟩;rw[p i];exact bJ (B1 _ (Nat.mod_lt _ ⋯))
  ·intro L g l D
   rw[jt];have o:(List.range (1+m)).map (λi=>V.str ⟨#[97+(d+(1+2*e)*i)%26]⟩)=((Cb d e m).map λc=>(⟨#[c]⟩:Str)).map V.str:=by
    unfold Cb;rw[MP,MP];rfl
   rw[o];have v:=E3 d z e r m u;have hgl:=j7 v;refine⟨_,.inl (aI.of ae),?_,?_⟩
   ·rw[MP]
    have J:((λy:Str=>y.length)∘λc=>(⟨#[c]⟩:Str))=λ_=>1:=by funext c;rfl
    have o:(Str.ofString "").length=0:=rfl;rw[J,List.map_const',List.sum_replicate_nat,My,o];omega
   ·rw[ft]
    exact q _ _ v (by unfold Cb;rw[My,q0J];omega) (F0 d z e r m u) (g.trans (af D))
theorem yL(r s:Ny):tx r++tx s=tx (r++s):=by
 show(⟨r.toArray++s.toArray⟩:Str)=⟨(r++s).toArray⟩;simp
theorem BM:∀n,n<26->(Str.ofString "ABCDEFGHIJKLMNOPQRSTUVWXYZ").cps.toList[n]?=some (65+n):=by decide +kernel
def D5(c:Nat):Bool:=Eg yJ c
theorem BJ:∀n,n<26->D5 (65+n)=true:=by decide +kernel
theorem GU(x:Int):∃n:Nat,n<26/\x%26=(n:Int):=⟨(x%26).toNat,⋯,⋯⟩
theorem E2{r:Ny}(h:∀x∈r,D5 x=true)(h1:1<=r.length)(h4:r.length<=4):dg r=true:=by
 have a:r.all (Eg yJ)=true:=Nk.mpr h;unfold dg ir;rw[a];simp;omega
abbrev lX:Stmt:=eU 70
inductive p7(vs:List V)(H:Hp)(Q:VK)(_E:XK):Prop
 |mk (c:Int) (_:vs=[.int c]) (_:∀(l:Addr) (p:aB) (H':Hp),H l=none->H' l=some (.lst (av p))->p.length=4->(∀r∈p,dg r=true)->ax H H'->Q (.ref l) H')
theorem yf:az ["_law_cell_here","_law_letters","_law_size","_law_at","_law_step_here","_law_base","_law_names_here","_law_k","_law_letter"] ["_law_cell_here"] (am lX):=by walk_at "c"
theorem yk{f:Addr}(F:c8 K "_law_names" "_law_names" lX f fd)(nb:NB mg):↑aV 1 f fd ["_law_cell_here"] p7:=by
 have sc:=yf;walk_at "f"
 ·obtain⟨c,rfl,q⟩:=h
  refine⟨_,(ad (aE (i:=1) sc.nd rfl (Or.inr rfl) qk)
   (ad (q01 2 sc.nd (aF (bC.m0 bY) aj (aF (bC.m1 bO) (ak 0) aj)))
   (ad (q01 3 sc.nd (aF (bC.m1 bO) (aF (bC.m1 b7) (ak 0) aj) (ak 2)))
   (ad (q01 4 sc.nd (aF (bC.m0 bY) aj (aF (bC.m1 dz) aj (aF (bC.m1 bO) (aF (bC.m1 b7) (ak 0) aj) aj))))
   (ad (q01 5 sc.nd (@vY _ _ _ _ _ _ _ _ (aa (bW ["_law_k"] [1,0] rfl (bv.of (by kernel_rfl)) (by kernel_rfl) (bP rfl nb.range (aa (ak 2) ac))
    (λ_ _ _ _=>(au (i:=0) (by show(["_law_k","_law_letters","_law_cell_here"]:List Str).Nodup;decide +kernel) rfl (Or.inl rfl))) (λ_ _ _ _=>bQ) (λ_ _ _ _=>(aN lJ (ak 1) (aF (bC.m1 bO) (aF (bC.m0 bY) (aF (bC.m1 b7) (ak 2) aj) (aF (bC.m1 dz) aj (ak 0))) aj) (λ_ _=>rfl)))) ac) rfl rfl))
   (ad (q01 6 sc.nd (bh ac))
   (ad (aX PassesOwn.never rfl (bP rfl nb.range (ci ac)) (q02 7 sc.nd)
   (ad (q01 8 sc.nd (aN lJ (ak 1) (aF (bC.m1 bO) (aF (bC.m0 bY) (aF (bC.m1 b7) (ak 0) aj) (aF (bC.m1 dz) (ak 4) (ak 7))) aj) (λ_ _=>rfl)))
   (ai (ba (dU PySem.F.plainAttrs_list PySem.F.slot_list_append PySem.F.type_list_append cg (ak 6) (aa (aF ia (aF ia (dh pF (ak 5) fS (cz (ak 3))) (ak 8)) (dh pF (ak 5) (cz (aF (bC.m0 bY) (ak 3) aj)) fS)) ac))))))
   (ai (aG (ak 6)))))))))),?_⟩
  obtain⟨m,Z⟩:∃m:Nat,c%4=(m:Int):=⟨_,(Nq (No _ ⋯)).symm⟩;have m2:m<4:=by omega
  symm;refine h1 _ _ ?_;grind;refine h1 _ _ ?_;clear h1;rw[Z];symm;refine⟨⋯,h1 _ _ ?_⟩;clear h1;obtain⟨a,O⟩:∃k:Nat,c/4%(1+(m:Int))=(k:Int):=⟨_,(Nq (No _ ⋯)).symm⟩;have hat2:a<1+m:=by have:=Np (c/4) (b:=1+(m:Int)) ⋯;omega
  rw[O];symm;refine h1 _ _ ?_;clear h1;generalize 1+2*(c/16%6)=st;symm;have en:(1+(m:Int)).toNat=1+m:=by omega
  rw[en];refine⟨rfl,⋯,⋯,?_⟩
  let fc:Nat->Nat:=λi=>65+((c/96+5*(i:Int))%26).toNat
  refine mT (n:=1+m) (f:=λi=>some (V.str ⟨#[fc i]⟩)) (λσ=>∃x,σ=[x,some (.str "ABCDEFGHIJKLMNOPQRSTUVWXYZ"),some (.int c)]) ⟨_,rfl⟩ ⋯ ?_ ?_
  ·rintro i hi σ d N1 N0 ⟨y,rfl⟩ D Y k0
   ext;obtain⟨n,h1,h2⟩:=GU (c/96+5*(i:Int));refine⟨nofun,fc i,?_,Y _ _ _ rfl D ⟨_,rfl⟩⟩;show je _ _=some (65+((c/96+5*(i:Int))%26).toNat);rw[h2];exact bJ (BM n h1)
  ·intro d D l hl
   rw[jt];have R:(List.range (1+m)).map (λi=>V.str ⟨#[fc i]⟩)=(((List.range (1+m)).map fc).map λc=>(⟨#[c]⟩:Str)).map V.str:=by rw[MP,MP];rfl
   rw[R];have g:∀x∈(List.range (1+m)).map fc,D5 x=true:=λx J=>by
    obtain⟨i,_,rfl⟩:=Nj.mp J;obtain⟨n,h1,h2⟩:=GU (c/96+5*(i:Int));show D5 (65+((c/96+5*(i:Int))%26).toNat)=true;rw[h2];exact BJ n h1
   have M:((List.range (1+m)).map fc).length=1+m:=by simp
   generalize(List.range (1+m)).map fc=cs at g M ⊢;refine⟨_,.inl (aI.of ae),?_,?_⟩
   ·rw[MP]
    have e1:((λy:Str=>y.length)∘λc=>(⟨#[c]⟩:Str))=λ_=>1:=by funext c;rfl
    have R:(Str.ofString "").length=0:=rfl;rw[e1,List.map_const',List.sum_replicate_nat,My,R];omega
   rw[ft];refine h1 _ _ ?_;clear h1;have G:=D.trans (af (o:=.lst ((cs.map λc=>(⟨#[c]⟩:Str)).map V.str)) hl);generalize aD d l (.lst ((cs.map λc=>(⟨#[c]⟩:Str)).map V.str))=H1 at G ⊢;symm;refine⟨ar nofun,λj v=>h1 _ _ ?_⟩;clear h1;have z:=G.free v;have T:=G.trans (af (o:=.lst []) v);have U:aD H1 j (.lst []) j=some (.lst []):=ae;generalize aD H1 j (.lst [])=H2 at T U ⊢;symm;refine⟨nofun,?_⟩;refine bK (n:=4) (λi σ d=>ax H d/\(∃p:aB,d j=some (.lst (av p))/\p.length=i/\∀r∈p,dg r=true)/\∃x y,σ=[some (V.int c),some (V.str (Str.ofString "ABCDEFGHIJKLMNOPQRSTUVWXYZ")),some (V.int (1+(m:Int))),some (V.int (a:Int)),some (V.int st),some (V.str (tx cs)),some (V.ref j),x,y]) ⟨T,⟨[],U,rfl,λr hr=>nomatch hr⟩,_,_,rfl⟩ ?_ ?_
   ·rintro i σ d hi ⟨e,⟨p,C,B,I⟩,x,y,rfl⟩
    ext;obtain⟨n,u,L⟩:=GU (c/2496+st*(i:Int));have nm:dg (cs.take a++[65+n]++cs.drop (a+1))=true:=by
     refine E2 (λx J=>?_) (by simp;omega) (by simp;omega);rcases MO.mp J with h | h
     ·rcases MO.mp h with h | h
      ·exact g x (q0H h)
      ·rw[Mz.mp h];exact BJ n u
     ·exact g x (q0I h)
    have S:((a:Int)+1)=((a+1:Nat):Int):=by push_cast;rfl
    rw[vz ⋯,S,p8 ⋯];have lt1:(cs.take a).length<=4:=by rw[Nf];omega
    have lt2:(cs.drop (a+1)).length<=4:=by rw[Ng];omega
    have ez:tx (cs.take a)++(⟨#[65+n]⟩:Str)++tx (cs.drop (a+1))=tx (cs.take a++[65+n]++cs.drop (a+1)):=by rw[show(⟨#[65+n]⟩:Str)=tx [65+n] from rfl,yL,yL]
    refine⟨.inr ⟨⋯,⋯⟩,nofun,65+n,by rw[L];exact bJ (BM n u),.inl ⟨rfl,_,aI.of C⟩,by rw[aw];exact ar ⋯,?_,by rw[aw];exact ar ⋯,?_,_,C,by rw[ao,B];exact aY ⋯,?_⟩
    ·rw[aw];exact ar (by show _+1<=_;omega)
    ·rw[show(⟨#[65+n]⟩:Str)=tx [65+n] from rfl,yL,aw,aw];exact ar (by simp;omega)
    ·rw[ez]
     refine⟨cM e z,p++[cs.take a++[65+n]++cs.drop (a+1)],?_,by rw[MX,B];rfl,λr hr=>?_⟩
     ·rw[ae];unfold av;rw[MN];rfl
     ·rcases MO.mp hr with h | h
      ·exact I r h
      ·rw[Mz.mp h];exact nm
   ·rintro σ d ⟨e,⟨p,C,B,I⟩,x,y,rfl⟩
    refine h1 _ _ ?_;ext;exact q j p d z C B I e
abbrev lN:Stmt:=eU 67
inductive pf(K:W.Frag)(vs:List V)(H:Hp)(Q:VK)(_E:XK):Prop
 |mk (a:Addr) (ns:List Int) (b m:Nat) (_:vs=[.ref a,.int (b:Int),.int (m:Int)]) (_:aI K H a (ns.map V.int)) (_:b<=100) (_:1<=m) (_:m<=100) (_:∀(l:Addr) (cs:List Int) (H':Hp),H l=none->H' l=some (.lst (cs.map V.int))->1<=cs.length->cs.length<=m->ax H H'->Q (.ref l) H')
theorem xL:az ["_law_script","_law_begin","_law_most","_law_many"] ["_law_script","_law_begin","_law_most"] (am lN):=by walk_at "c"
theorem yy{f:Addr}(F:c8 K "_law_cells" "_law_cells" lN f fd)(nb:NB mg)(zia:↑df 1 "_law_cell" ["_law_script","_law_k"] (lO K)):↑aV 2 f fd ["_law_script","_law_begin","_law_most"] (pf K):=by
 have sc:=xL;walk_at "f"
 ·obtain⟨a,ns,b,m,rfl,v,hb,hm1,hm,q⟩:=h
  refine⟨_,(ad (q01 3 sc.nd (aF (bC.m0 lP) (ak 2) (aF (bC.m1 b7) (aF (bC.m1 bO) (aH zia (hr.mono nofun) rfl aM (aa (ak 0) (ci ac))) (ak 2)) aj)))
   (ai (aG (bW ["_law_k"] [0] rfl (bv.of (by kernel_rfl)) (by kernel_rfl) (jd rfl nb.range (aa (ak 1) (aa (aF (bC.m0 bY) (ak 1) (ak 3)) ac)))
    (λ_ _ _ _=>(au (i:=0) (by show(["_law_k","_law_script"]:List Str).Nodup;decide +kernel) rfl (Or.inl rfl))) (λ_ _ _ _=>bQ) (λ_ _ _ _=>(aH zia (hr.mono nofun) rfl aM (aa (ak 1) (aa (ak 0) ac)))))))),?_⟩
  symm;refine⟨a,ns,62,rfl,v,⋯,λc=>⟨_,rfl,⋯,h1 _ _ ?_⟩⟩;clear h1;obtain⟨n,x⟩:∃n:Nat,(m:Int)-c%(m:Int)/2=(n:Int):=⟨((m:Int)-c%(m:Int)/2).toNat,by have:=No c (b:=(m:Int)) ⋯;have:=Np c (b:=(m:Int)) ⋯;omega⟩;have hn2:1<=n/\n<=m:=by have:=No c (b:=(m:Int)) ⋯;have:=Np c (b:=(m:Int)) ⋯;omega
  rw[x];ext;refine⟨⋯,⋯,⋯,⋯,?_⟩;rw[show((b:Int)+(n:Int)-(b:Int)).toNat=n by omega];refine j5 (λi d σ k=>ax H k/\i<=n/\(∃g:List Int,d=g.map V.int/\g.length=i)/\∃z,σ=[z,some (V.ref a)]) ⟨λ_ _ e=>e,MZ _,⟨[],rfl,rfl⟩,_,rfl⟩ ?_ (λi d σ k h=>h.2.1) ?_ ?_
  ·rintro i d σ k ⟨_,u,⟨g,rfl,j⟩,_⟩
   rw[My,j];exact aY ⋯
  ·rintro i d σ k u ⟨o,_,⟨g,rfl,j⟩,z,rfl⟩
   ext;exact⟨a,ns,b+i,by simp,o.seq v,⋯,λc=>⟨o,u,⟨g++[c],by simp,by simp[j]⟩⟩⟩
  rintro d σ H4 ⟨p,_,⟨g,rfl,j⟩,_⟩;intro l r;exact q l g _ (p.free r) ae ⋯ ⋯ (p.trans (af r))
abbrev i6:Stmt:=eU 72
inductive kQ(R:RC)(CG:Addr)(vs:List V)(H:Hp)(Q:VK)(_E:XK):Prop
 |mk (l:Addr) (sg st:Ny) (ts:NC) (rs:Yaa) (_:vs=[.str (tx sg),.str (tx st),.ref l]) (_:gj H l ts rs) (_:(∀r∈rs,jP r)) (_:rs.length<=24) (_:sg.length<=100) (_:st.length<=100) (_:oM sg st rs=none) (_:∀b db as H',cL R H' CG db b sg st as rs->ax H H'->Q (.ref b) H')
theorem tG:az ["_law_signs_here","_law_start","_law_rules"] ["_law_signs_here","_law_start","_law_rules"] (am i6):=by walk_at "c"
theorem u0{f:Addr}(F:c8 K "_law_grammar" "_law_grammar" i6 f fd)(nb:NB mg)(gk:JI K CG)(zcc:↑df 6 "_law_rule" ["_law_rule_here"] (mO R))(zub:↑l_ 4 "Grammar" CG ["self","signs","start","rules"] (hU K R)):↑aV 7 f fd ["_law_signs_here","_law_start","_law_rules"] (kQ R CG):=by
 have sc:=tG;walk_at "f"
 ·obtain⟨l,C,B,ts,G,rfl,o,v,hn,hsg,hst,L,q⟩:=h
  refine⟨_,(ai (aG (jo zub (hr.mono nofun) rfl aM (aa (pv 0) (aa (pv 1) (aa (bW ["_law_rule_here"] [] rfl (bv.of (by kernel_rfl)) (by kernel_rfl) (tX (pv 2))
    (λ_ _ _ _=>(au (i:=0) (by show(["_law_rule_here"]:List Str).Nodup;decide +kernel) rfl (Or.inl rfl))) (λ_ _ _ _=>bQ) (λ_ _ _ _=>(aH zcc (hr.mono nofun) rfl aM (aa (pv 0) ac)))) ac)))))),?_⟩
  ext;refine⟨⟨_,aI.of o.1⟩,yg o v ⋯ λg H2 D I c p x j m d n=>?_⟩;have k:ax H2 (aD H2 c (.lst (g.map V.ref))):=af p;have y:aD H2 c (.lst (g.map V.ref)) c=some (.lst (g.map V.ref)):=ae;generalize aD H2 c (.lst (g.map V.ref))=H3 at k y m d ⊢;have a:ax H3 (aD (aD H3 j (.own x)) x (.ins CG j [])):=(af d).trans (af (by rw[aq (Ne.symm n)];exact m));refine⟨x,CG,j,c,C,B,g,G,rfl,ae,gk.cl.cl,gk.na,⋯,⋯,a _ _ y,(I.up k).up a,λr hr=>(v r hr).k4,⋯,L,λM lk pn t z J _ _ _=>⟨rfl,?_⟩⟩;exact q x j _ M J.f ((D.trans k).trans λb u e=>z b u (aA e m) (a b u e))
abbrev kf:Stmt:=eU 73
inductive m9(K:W.Frag)(vs:List V)(H:Hp)(Q:VK)(_E:XK):Prop
 |mk (a:Addr) (p:aB) (r c t:Nat) (_:vs=[.ref a,.int (t:Int)]) (_:H a=some (.lst (av p))) (_:rect p r c) (_:0<r) (_:0<c) (_:r<=64) (_:c<=64) (_:t<8) (_:∀l H',H l=none->H' l=some (.lst (av (turned p t)))->ax H H'->Q (.ref l) H')
theorem wx:az ["_law_picture_here","_law_t","_law_turn","_law_rows","_law_column"] ["_law_picture_here","_law_t"] (am kf):=by walk_at "c"
theorem wN{f:Addr}(F:c8 K "_law_turned" "_law_turned" kf f fd)(nb:NB mg):↑aV 1 f fd ["_law_picture_here","_law_t"] (m9 K):=by
 have sc:=wx;walk_at "f"
 ·obtain⟨a,p,r,c,t,rfl,hS,hp,hr0,hc0,hr1,hc1,ht,q⟩:=h
  refine⟨_,(ad (bB (aK (bC.m0 mX) (ak 1) aj (aZ _))
   (ai (fG (i:=0) ["_law_row"] [] sc.nd rfl (Or.inl rfl) rfl  rfl (bv.of (by kernel_rfl)) (by kernel_rfl) (aR (ak 0))
    (λ_ _ _ _=>(au (i:=0) (by show(["_law_row"]:List Str).Nodup;decide +kernel) rfl (Or.inl rfl))) (λ_ _ _ _=>bQ) (λ_ _ _ _=>(pU rfl rfl nb.reversed (aa (ak 0) ac)))))
   aO)
   (ad (aX PassesOwn.never rfl (bP rfl nb.range (aa (aF (bC.m1 bO) (ak 1) aj) ac)) (q02 2 sc.nd)
   (ad (q01 3 sc.nd (bh ac))
   (ad (aX PassesOwn.never rfl (bP rfl nb.range (aa (aC aS rfl nb.len bi (aa (aN bF (ak 0) aj (λ_ _=>rfl)) ac)) ac)) (au (i:=4) sc.nd rfl (Or.inr rfl))
   (ai (ba (dU PySem.F.plainAttrs_list PySem.F.slot_list_append PySem.F.type_list_append cg (ak 3) (aa (@vY _ _ _ _ _ _ _ _ (aa (bW ["_law_row"] [4] rfl (bv.of (by kernel_rfl)) (by kernel_rfl) (B4 rfl nb.reversed (aa (ak 0) ac))
    (λ_ _ _ _=>(au (i:=0) (by show(["_law_row","_law_column"]:List Str).Nodup;decide +kernel) rfl (Or.inl rfl))) (λ_ _ _ _=>bQ) (λ_ _ _ _=>(aN lJ (ak 0) (ak 1) (λ_ _=>rfl)))) ac) rfl rfl) ac)))))
   (ai (q01 0 sc.nd (ak 3))))))
   (ai (aG (cq bR rfl nb.list c7 (aa (ak 0) ac)))))),?_⟩
  refine al λN2 h2=>?_;have loop:∀(l2:Addr) (p':aB) (H2:Hp) (y1 y2 y3:Option V),H2 l2=some (.lst (av p'))->ax H H2->rect p' r c->turned p t=aJ (t%4) p'->N2 [some (V.ref l2),some (V.int t),y1,y2,y3] H2:=by
   intro l2 p' H2 y1 y2 y3 hH2 sm2 hp' et;refine h2 _ _ ?_;clear h2;refine al λN3 h3=>?_;ext;refine⟨⋯,⋯,?_⟩;have e4:((t:Int)%4).toNat=t%4:=by omega
   rw[e4];refine bK (lo:=0) (n:=t%4) (λi σ H3=>∃(l3:Addr) (x1 x2 x3:Option V),σ=[some (V.ref l3),some (V.int t),x1,x2,x3]/\H3 l3=some (.lst (av (aJ i p')))/\ax H H3) ⟨l2,_,_,_,rfl,hH2,sm2⟩ ?_ ?_
   ·rintro i σ H3 hi ⟨l3,x1,x2,x3,rfl,h4,sm3⟩
    have hq:=cX i hp' hr0 hc0;obtain⟨r',c',g3,g4,g5,g6⟩:∃r' c',rect (aJ i p') r' c'/\0<r'/\r'<=64/\c'<=64:=by
     by_cases ot:i%2=0
     ·rw[q07 ot,q07 ot]at hq;exact⟨r,c,hq,hr0,hr1,hc1⟩
     ·rw[q06 ot,q06 ot]at hq;exact⟨c,r,hq,hc0,hc1,hr1⟩
    have hqa:aJ (i+1) p'=aT (aJ i p'):=(cB 1 i p').symm;generalize aJ i p'=pq at h4 g3 hqa;have hl0:0<pq.length:=by rw[g3.1];exact g4
    have hcc:(pq[0]).length=c':=g3.2 _ (MG hl0);have hh:(pq.headD []).length=c':=aW g3 g4;rw[hqa];ext;refine⟨MZ _,λlr hlr=>?_⟩;have s4:=af (o:=.lst []) hlr;have e4:aD H3 lr (.lst []) lr=some (.lst []):=ae;generalize aD H3 lr (.lst [])=H4 at s4 e4 ⊢;have h0:je (av pq) 0=some (V.str (tx pq[0])):=(show je _ ((0:Nat):Int)=_ from bJ (br hl0));refine⟨_,aI.of (s4 _ _ h4),_,h0,_,rfl,by rw[aw];exact ar ⋯,by rw[aw];omega,by rw[aw];omega,?_⟩;rw[aw,hcc,MJ];refine bK (lo:=0) (n:=c') (λj σ H5=>ax H3 H5/\j<=c'/\H5 lr=some (.lst (av ((List.range j).map (col pq))))/\∃y,σ=[some (V.ref l3),some (V.int t),some (V.int (i:Int)),some (V.ref lr),y]) ⟨s4,MZ _,e4,_,rfl⟩ ?_ ?_
    ·rintro j σ H5 hj ⟨s5,_,e5,y,rfl⟩
     have hl35:=s5 _ _ h4;ext;have hrow:∀x∈pq,x.length=c':=g3.2;have hpq:pq.length<=64:=by rw[g3.1];exact g5
     refine⟨.inl ⟨rfl,_,aI.of e5⟩,rfl,_,aI.of hl35,v5 (xs:=av pq) (λn acc σ H'=>H'=H5/\acc=((pq.reverse.take n).map λr=>V.str ⟨#[r.getD j 0]⟩)/\n<=pq.length/\∃x,σ=[x,some (.int (j:Int))]) ⟨rfl,rfl,MZ _,_,rfl⟩ ?_ ?_ ?_ ?_ ?_⟩
     ·rintro n acc σ H' ⟨_,rfl,_⟩
      refine aY ?_;rw[My,Nf,MS];omega
     ·rintro n acc σ H' ⟨_,_,h,_⟩
      rw[ao];exact h
     ·rintro n acc σ H' ⟨rfl,_⟩
      exact aI.of hl35
     ·rintro n x acc σ H' hx ⟨rfl,rfl,hn,y,rfl⟩
      have hl:n<pq.reverse.length:=by
       have:=(Mw.mp hx).1
       rwa [MS,ao,<- MS (as:=pq)]at this
      have hx':(av pq.reverse)[n]?=some x:=by unfold av at hx ⊢;rwa [List.map_reverse]
      rw[br hl]at hx';cases hx';have hm:pq.reverse[n]∈pq:=List.mem_reverse.mp (MG hl);have hr:=hrow _ hm;ext;have hc:(tx pq.reverse[n]).cps.toList[j]?=some (pq.reverse[n].getD j 0):=by rw[cE,q0A,Mv ⋯];rfl
      refine⟨by rw[aw];exact ar ⋯,_,bJ hc,?_,by rw[MS]at hl;exact hl⟩;rw[q0E,Mv hl,MN]
      rfl
     ·rintro acc σ H' ⟨rfl,rfl,_⟩ l hl
      rw[ao,<- MS (as:=pq),Nd]at *;refine⟨(col pq j).map λc=>(⟨#[c]⟩:Str),.inl (aI.of ?_),?_,_,af hl _ _ e5,?_,?_,hj,?_⟩
      ·rw[ae];unfold col;rw[MP,MP];rfl
      ·rw[MP]
       have e:((λy:Str=>y.length)∘λc=>(⟨#[c]⟩:Str))=λ_=>1:=by funext c;rfl
       rw[e,List.map_const',List.sum_replicate_nat,My];have e0:(Str.ofString "").length=0:=rfl;rw[e0];unfold col;rw[My];omega
      ·rw[ao,My,q0J];exact aY ⋯
      ·exact cM (s5.trans (af hl)) hlr
      ·rw[ae,ft,q0M,MN]
       exact q0R (λz=>some (HO.lst z)) (cV _ _).symm
    ·rintro σ H5 ⟨s5,_,e5,y,rfl⟩
     ext;refine⟨?_,sm3.trans s5⟩;rw[e5];unfold aT;rw[hh]
   ·rintro σ H3 ⟨l3,x1,x2,x3,rfl,h4,sm3⟩
    refine h3 _ _ ?_;ext;exact⟨_,.inl (aI.of h4),λl hl=>q l _ (sm3.free hl) (by rw[ae,et]) (sm3.trans (af hl))⟩
  ext;have hpl:p.length=r:=hp.1
  split
  ·rename_i h4
   refine⟨⟨_,aI.of hS⟩,?_⟩;refine d0 (as:=p) (emb:=λx=>V.str (tx x)) (f:=λx=>some (V.str (tx x.reverse))) (λσ=>∃x,σ=[x]) ⟨_,rfl⟩ (λH' sm=>aI.of (sm _ _ hS)) ⋯ ?_ ?_
   ·rintro i x hx σ H' M1 M0 ⟨y,rfl⟩ sm k1 k0
    ext;have hxl:x.length=c:=hp.2 x (MB hx);refine⟨by rw[aw];omega,nofun,k1 _ _ _ ?_ sm ⟨_,rfl⟩⟩;rw[cE,ft]
   ·intro H' sm l hl
    rw[jt];have em:p.map (λx=>V.str (tx x.reverse))=av (mirror p):=by unfold av mirror;rw[MP];rfl
    rw[em];refine loop l (mirror p) _ _ _ _ ae (sm.trans (af hl)) (bT hp) ?_;unfold turned;rw[q07 ⋯]
  ·rename_i h4
   refine loop a p H _ _ _ hS (ax.refl _) hp ?_;unfold turned;rw[q06 ⋯]
def qW(p q:aB):aB:=(p.zip q).map λx=>x.1++x.2
def vf(k:Nat)(v:RV)(ps:List aB):Option aB:=
 match k,ps with
 |0,_=>some [v.sg]
 |1,[p,q]=>if p.length=q.length/\(p.headD []).length+(q.headD []).length<=6 then some (qW p q) else none
 |2,[p,q]=>if(p.headD []).length=(q.headD []).length/\p.length+q.length<=6 then some (p++q) else none
 |_,[p]=>some (turned p v.t.toNat)
 |_,_=>none
theorem CH{H:Hp}{lp:Addr}{as:NC}(h1:H l=some (.lst (as.map V.ref)))(h2:H lp=some (.lst (av p)))(h3:p≠[]):lp≠l:=λe=>by
 rw[e,h1]at h2;have h4:=HO.lst.inj (q0S h2);cases p with
 |nil=>exact h3 rfl
 |cons r p=>
  cases as with
  |nil=>exact nomatch h4
  |cons a as=>have:=(List.cons.inj h4).1;cases this
theorem n9(s:ax H H')(h:H' a=none):H a=none:=by
 cases e:H a with
 |none=>rfl
 |some o=>rw[s _ _ e]at h;cases h
theorem Bt{H:Hp}{Q:VK}(ha:H a=some (.tup xs))(hb:H b=some (.tup ys))(hx:xs≠[])(hz:xs.length+ys.length<=1000)(q:∀p H',H' p=some (.tup (xs++ys))->ax H H'->Q (.ref p) H'):Fx K (.ref a) (.ref b) H Q:=
 ⟨a,b,xs,ys,rfl,rfl,cy.of ha,cy.of hb,hx,ar ⋯,λe=>q a H (by rw[e,Na];exact ha) (ax.refl _),λ_ p hp=>q p _ ae (af hp)⟩
theorem DL{t u:TS}{σ:St}(h:∀t' u',t'=t->u'=u->zU c t' u' D σ H):zU c t u D σ H:=h t u rfl rfl
structure jD(sg:Ny)(p:aB)(r c:Nat):Prop where
 p6:fh p r c
 r3:r<=3
 c3:c<=3
 sn:∀x∈p,∀s∈x,s∈sg
theorem Ag{sg:Ny}{p:aB}(h:∀x∈p,∀s∈x,s∈sg):∀x∈mirror p,∀s∈x,s∈sg:=by
 intro row hr s b;obtain⟨x,a,rfl⟩:=Nj.mp hr;exact h x a s (List.mem_reverse.mp b)
theorem xc{sg:Ny}{p:aB}(hp:rect p r c)(hr:0<r)(h:∀x∈p,∀s∈x,s∈sg):∀x∈aT p,∀s∈x,s∈sg:=by
 intro row a s j;unfold aT at a;rw[aW hp hr]at a;obtain⟨i,d,rfl⟩:=Nj.mp a;have d:=List.mem_range.mp d;obtain⟨x,g,e⟩:=Nj.mp j;have b:=List.mem_reverse.mp g;have hl:=hp.2 x b;rw[q0A,Mv ⋯,q0L]at e;exact h x b s (e▸MG _)
theorem iK{sg:Ny}:∀(n:Nat) {p:aB} {r c:Nat},rect p r c->0<r->0<c->(∀x∈p,∀s∈x,s∈sg)->∀x∈aJ n p,∀s∈x,s∈sg
 |0,_,_,_,_,_,_,h=>h
 |n+1,p,r,c,hp,hr,hc,h=>iK n (bw hp hr) hc hr (xc hp hr h)
theorem jD.turn{sg:Ny}{p:aB}{r c:Nat}(h:jD sg p r c)(t:Nat):∃r c,jD sg (turned p t) r c:=by
 have:=h.r3;have:=h.c3;have:=h.p6.r0;have:=h.p6.c0
 refine⟨_,_,⟨cP h.p6.rc h.p6.r0 h.p6.c0 t,by split<;>omega,by split<;>omega,by split<;>omega,by split<;>omega⟩,by split<;>omega,by split<;>omega,?_⟩;unfold turned
 split
 ·exact iK _ (bT h.p6.rc) h.p6.r0 h.p6.c0 (Ag h.sn)
 ·exact iK _ h.p6.rc h.p6.r0 h.p6.c0 h.sn
theorem rP{k:Nat}{p:aB}(hk:k=1\/k=2)(h1:fh p1 r c)(h2:fh p2 r' c')(m:vf k v [p1,p2]=some p):(k=1/\r=r'/\p=kx true p1 p2)\/(k=2/\c=c'/\p=kx false p1 p2):=by
 have e1:=aW h1.rc h1.r0;have e2:=aW h2.rc h2.r0;have l1:=h1.rc.1;have l2:=h2.rc.1;rcases hk with rfl | rfl
 ·have m':(if p1.length=p2.length/\(p1.headD []).length+(p2.headD []).length<=6 then some (qW p1 p2) else none)=some p:=m
  rw[l1,l2]at m'
  split at m'
  ·rename_i h;cases m';exact .inl ⟨rfl,h.1,rfl⟩
  ·cases m'
 ·have m':(if(p1.headD []).length=(p2.headD []).length/\p1.length+p2.length<=6 then some (p1++p2) else none)=some p:=m
  rw[e1,e2]at m'
  split at m'
  ·rename_i h;cases m';exact .inr ⟨rfl,h.1,rfl⟩
  ·cases m'
theorem jD.put{k:Nat}{p:aB}{r c:Nat}(hk:k=1\/k=2)(h1:jD sg p1 r c)(h2:jD sg p2 r' c')(m:vf k v [p1,p2]=some p)(hb:(k=1->c+c'<=3)/\(k=2->r+r'<=3)):∃r c,jD sg p r c:=by
 have:=h1.p6.r0;have:=h1.p6.c0;have:=h1.r3;have:=h1.c3
 rcases rP hk h1.p6 h2.p6 m with⟨e,rfl,rfl⟩ | ⟨e,rfl,rfl⟩
 ·have hb:=hb.1 e
  refine⟨r,c+c',⟨ng h1.p6.rc h2.p6.rc,⋯,⋯,⋯,⋯⟩,⋯,⋯,λx b s i=>?_⟩;obtain⟨⟨y,z⟩,a,rfl⟩:=Nj.mp (show x∈(p1.zip p2).map λx=>x.1++x.2 from b);obtain⟨g,d⟩:=List.of_mem_zip a;exact(MO.mp i).elim (h1.sn y g s) (h2.sn z d s)
 ·have hb:=hb.2 e
  exact⟨r+r',c,⟨pT h1.p6.rc h2.p6.rc,⋯,⋯,⋯,⋯⟩,⋯,⋯,λx b=>(MO.mp (show x∈p1++p2 from b)).elim (h1.sn x) (h2.sn x)⟩
theorem jD.ok(h:jD sg p r c)(hs:∀s∈sg,s≠47):vc p:=⟨λe=>by have:=h.p6.rc.1;have:=h.p6.r0;rw[e]at *;simp at *;omega,λx hx h47=>hs 47 (h.sn x hx 47 h47) rfl⟩
theorem Bj{x:Nat×RV}{pq:aB}(hk:x.1=1\/x.1=2)(hp:fh p r c)(hq:fh q r' c')(e:vf x.1 v [p,q]=some pq):[(bc p,x.2.o1),(bc q,x.2.o2)]∈bS x pq:=by
 have:=hp.r0;have:=hp.c0;have:=hq.r0;have:=hq.c0
 rcases rP hk hp hq e with⟨d,rfl,rfl⟩ | ⟨d,rfl,rfl⟩
 ·have a:=ng hp.rc hq.rc
  unfold bS;rw[d];refine Nj.mpr ⟨(bc p,bc q),?_,rfl⟩;unfold bM;rw[aW a ⋯];refine Nj.mpr ⟨c-1,List.mem_range.mpr ⋯,?_⟩;rw[show c-1+1=c by omega];have j:(kx true p q).map (List.take c)=p:=by
   show((p.zip q).map λx=>x.1++x.2).map (List.take c)=p;rw[MP];exact(q0K (f:=List.take c∘λx:G4×G4=>x.1++x.2) (g:=Prod.fst) λy b=>List.take_left' (hp.rc.2 _ (List.of_mem_zip b).1)).trans (List.map_fst_zip (by rw[hp.rc.1,hq.rc.1];exact MY _))
  have i:(kx true p q).map (List.drop c)=q:=by
   show((p.zip q).map λx=>x.1++x.2).map (List.drop c)=q;rw[MP];exact(q0K (f:=List.drop c∘λx:G4×G4=>x.1++x.2) (g:=Prod.snd) λy b=>List.drop_left' (hp.rc.2 _ (List.of_mem_zip b).1)).trans (List.map_snd_zip (by rw[hp.rc.1,hq.rc.1];exact MY _))
  show(bc ((kx true p q).map (List.take c)),bc ((kx true p q).map (List.drop c)))=_;rw[j,i]
 ·have a:=pT hp.rc hq.rc
  unfold bS;rw[d];refine Nj.mpr ⟨(bc p,bc q),?_,rfl⟩;unfold bM;rw[a.1];refine Nj.mpr ⟨r-1,List.mem_range.mpr ⋯,?_⟩;rw[show r-1+1=r by omega];show(bc ((kx false p q).take r),bc ((kx false p q).drop r))=_;rw[show(kx false p q).take r=p from List.take_left' hp.rc.1,show(kx false p q).drop r=q from List.drop_left' hp.rc.1]
theorem Dv.more{rs rs':Yaa}(hs:∀x∈rs,x∈rs'){k:Ky}{v:Int}(h:Dv rs k v):Dv rs' k v:=by
 induction h with
 |leaf hr ho hw=>exact .leaf (hs _ hr) ho hw
 |one hr ho hw _ ih=>exact .one (hs _ hr) ho hw ih
 |two hr ho hw _ _ i1 i2=>exact .two (hs _ hr) ho hw i1 i2
theorem Dv.eq{k':Ky}{v':Int}(h:Dv rs k v)(e:k=k')(e':v=v'):Dv rs k' v':=by subst e;subst e';exact h
structure oO(r' r:Nat×RV):Prop where
 k:r'.1=r.1
 sg:r.1=0->r'.2.sg=r.2.sg
 o1:r.1≠0->r'.2.o1=r.2.o1
 o2:r.1=1\/r.1=2->r'.2.o2=r.2.o2
 t:r.1=3->r'.2.t=r.2.t
theorem oO.rfl'(r:Nat×RV):oO r r:=⟨rfl,λ_=>rfl,λ_=>rfl,λ_=>rfl,λ_=>rfl⟩
def kG(r:Nat×RV):List V:=match r.1 with
 |0=>[.int 0,.str (tx r.2.sg),.str ""]
 |1=>[.int 1,.str (tx r.2.o1),.str (tx r.2.o2)]
 |2=>[.int 2,.str (tx r.2.o1),.str (tx r.2.o2)]
 |_=>[.int 3,.str (tx r.2.o1),.int r.2.t]
theorem sX(r:Nat×RV):jW (gM r) (some 2) none=kG r:=by
 obtain⟨k,v⟩:=r
 match k with
 |0=>rfl
 |1=>rfl
 |2=>rfl
 |k+3=>rfl
theorem on(r:Nat×RV):(kG r).all r9=true:=by
 obtain⟨k,v⟩:=r
 match k with
 |0=>rfl
 |1=>rfl
 |2=>rfl
 |k+3=>rfl
theorem wS(r:Nat×RV):¬ (HT.sIx (gM r).length 0 (some 2)=0/\HT.sIx (gM r).length (gM r).length none=(gM r).length):=by
 obtain⟨k,v⟩:=r
 match k with
 |0=>exact λh=>by cases h.1
 |1=>exact λh=>by cases h.1
 |2=>exact λh=>by cases h.1
 |k+3=>exact λh=>by cases h.1
theorem jx(h:wU (.str a) (.str b)=true):a=b:=by
 have c:(a==b)=true:=h;exact eq_of_beq c
theorem zA{a b:Int}(h:wU (.int a) (.int b)=true):a=b:=by
 have c:(a==b)=true:=h;exact eq_of_beq c
theorem fJ{x y z x' y' z':V}(h:wC [x,y,z] [x',y',z']=true):wU x x'=true/\wU y y'=true/\wU z z'=true:=by
 have a:(([0,1,2]:List Nat).all (λj=>match([x,y,z]:List V)[j]?,([x',y',z']:List V)[j]? with | some x,some y=>wU x y | _,_=>true)&&true)=true:=h
 simpa using a
theorem vq(r:Nat×RV)(h4:r.1<4):∃y z,kG r=[.int (r.1:Int),y,z]:=by
 obtain⟨k,v⟩:=r;rcases eC h4 with h | h | h | h<;>(simp only at h;subst h;exact⟨_,_,rfl⟩)
theorem DQ{r' r:Nat×RV}(h4':r'.1<4)(h4:r.1<4)(he:wC (kG r') (kG r)=true):oO r' r:=by
 have c:r'.1=r.1:=by
  obtain⟨y,z,e⟩:=vq r h4;obtain⟨y',z',d⟩:=vq r' h4';rw[e,d]at he;have:=zA (fJ he).1;omega
 obtain⟨b,a⟩:=r';obtain⟨k,v⟩:=r;have e:b=k:=c;subst e;rcases eC h4 with h | h | h | h<;>(simp only at h;subst h)
 ·have:=fJ (show wC [.int 0,.str (tx a.sg),.str ""] [.int 0,.str (tx v.sg),.str ""]=true from he)
  exact⟨rfl,λ_=>cT (jx this.2.1),λh=>q0Q rfl h,λh=>(by rcases h with h | h<;>cases h),λh=>(by cases h)⟩
 ·have:=fJ (show wC [.int 1,.str (tx a.o1),.str (tx a.o2)] [.int 1,.str (tx v.o1),.str (tx v.o2)]=true from he)
  exact⟨rfl,λh=>(by cases h),λ_=>cT (jx this.2.1),λ_=>cT (jx this.2.2),λh=>(by cases h)⟩
 ·have:=fJ (show wC [.int 2,.str (tx a.o1),.str (tx a.o2)] [.int 2,.str (tx v.o1),.str (tx v.o2)]=true from he)
  exact⟨rfl,λh=>(by cases h),λ_=>cT (jx this.2.1),λ_=>cT (jx this.2.2),λh=>(by cases h)⟩
 ·have:=fJ (show wC [.int 3,.str (tx a.o1),.int a.t] [.int 3,.str (tx v.o1),.int v.t]=true from he)
  exact⟨rfl,λh=>(by cases h),λ_=>cT (jx this.2.1),λh=>(by rcases h with h | h<;>cases h),λ_=>zA this.2.2⟩
abbrev mF:Stmt:=eU 75
inductive pd(vs:List V)(H:Hp)(Q:VK)(_E:XK):Prop
 |mk (l t:Addr) (b:Bool) (ts:NC) (rs:Yaa) (r:Nat×RV) (_:vs=[.ref l,.ref t,.bl b]) (_:gj H l ts rs) (_:(∀x∈rs,x.1<4)) (_:H t=some (.tup (gM r))) (_:r.1<4) (_:rs.length<24) (_:(∀(k:Nat) r' H',rs[k]?=some r'->oO r' r->ax H H'->Q (.int (k:Int)) H')) (_:(∀H0,ax H H0->Q (.int (rs.length:Int)) (aD H0 l (.lst (ts.map V.ref++[V.ref t])))))
theorem xj:az ["_law_rules","_law_wanted","_law_again","_law_k","_law_rule_here"] ["_law_rules","_law_wanted","_law_again"] (am mF):=by walk_at "c"
theorem yz{f:Addr}(F:c8 K "_law_noted" "_law_noted" mF f fd)(nb:NB mg):↑aV 1 f fd ["_law_rules","_law_wanted","_law_again"] pd:=by
 have sc:=xj;walk_at "f"
 ·obtain⟨l,t,b,O,B,r,rfl,a,I,ht,G,hl24,q1,Z⟩:=h
  have hu:=hr.units;refine⟨_,(ad (bB (cR (ak 2) λ_=>rfl)
   (ai (aX PassesOwn.never rfl (n0 rfl nb.enumerate (aa (ak 0) ac)) (fT (n:=2) rfl (aU (q02 3 sc.nd) (aU (q02 4 sc.nd) du)))
   (ai (bB (aK (GP hu) (dh Cv (ak 4) (cz aj) fS) (dh Cv (ak 1) (cz aj) fS) (aZ _))
   (ai (aG (ak 3)))
   aO))))
   aO)
   (ad (ba (dU PySem.F.plainAttrs_list PySem.F.slot_list_append PySem.F.type_list_append cg (ak 0) (aa (ak 1) ac)))
   (ai (aG (aF (bC.m0 lP) (aC bo rfl nb.len bi (aa (ak 0) ac)) aj))))),?_⟩
  refine al λN1 h1=>?_;have dW:∀{m k:Option V} {c:Hp},ax H c->N1 [some (V.ref l),some (V.ref t),some (V.bl b),m,k] c:=fun{m k c} d=>by
   refine h1 _ _ ?_;ext;have y:=d _ _ a.1;have v:(O.map V.ref).length=B.length:=by rw[My];exact a.2.1
   refine⟨.inl ⟨rfl,_,aI.of y⟩,_,y,?_,_,aI.of ae,?_⟩
   ·rw[v];exact aY ⋯
   ·have:=Z c d
    rw[MX,v];rw[show(((B.length+[V.ref t].length:Nat):Int)-1)=(B.length:Int) by simp];exact this
  ext;cases b with
  |false=>rw[q06 nofun];exact dW (ax.refl _)
  |true=>
   rw[q07 rfl];refine⟨_,aI.of a.1,?_⟩;refine mw (xs:=O.map V.ref) (λi σ c=>ax H c/\∃m k,σ=[some (V.ref l),some (V.ref t),some (V.bl true),m,k]) ⟨λ_ _ e=>e,_,_,rfl⟩ ?_ ?_ ?_
   ·rintro i σ c _ ⟨d,_⟩
    exact aI.of (d _ _ a.1)
   ·rintro i x σ c T Y ⟨d,m,k,rfl⟩ hT
    rw[MA]at Y;obtain⟨p,u,rfl⟩:=M5.mp Y;obtain⟨g,j⟩:∃g,B[i]?=some g:=⟨_,Mv (by have:=(Mw.mp u).1;have:=a.2.1;omega)⟩;have D:=d _ _ (a.2.2 i p g u j);have C:=af (o:=.tup [V.int (i:Int),V.ref p]) hT;have z:aD c T (.tup [V.int (i:Int),V.ref p]) T=some (.tup [V.int (i:Int),V.ref p]):=ae;generalize aD c T (.tup [V.int (i:Int),V.ref p])=H1 at C z ⊢;ext;have q:=d.trans C;refine⟨_,cy.of z,rfl,_,_,rfl,_,_,rfl,rfl,p,rfl,_,cy.of (C _ _ D),wS g,λc1 M=>?_⟩;rw[sX];have U:=af (o:=.tup (kG g)) M;refine⟨_,cy.of (U _ _ (q _ _ ht)),wS r,λc2 L=>?_⟩;rw[sX];have S:=af (o:=.tup (kG r)) L;refine⟨_,cy.of (S _ _ ae),_,cy.of ae,on g,on r,?_⟩;have R:=(q.trans U).trans S
    by_cases J:wC (kG g) (kG r)=true
    ·rw[q07 J]
     exact q1 i g _ j (DQ (I _ (MB j)) G J) R
    ·rw[q06 J];exact R
   ·rintro σ c ⟨d,m,k,rfl⟩
    exact dW d
abbrev j8:Stmt:=eU 74
inductive m6(vs:List V)(H:Hp)(Q:VK)(_E:XK):Prop
 |mk (a b:Addr) (p q:aB) (r c r' c':Nat) (sd:Bool) (mo:Int) (_:vs=[.ref a,.ref b,.bl sd,.int mo]) (_:H a=some (.lst (av p))) (_:H b=some (.lst (av q))) (_:fh p r c) (_:fh q r' c') (_:mo<=6) (_:(∀pc,(∀v:RV,vf (if sd then 1 else 2) v [p,q]=some pc)->(sd=true->((c+c':Nat):Int)<=mo)->(sd=false->((r+r':Nat):Int)<=mo)->fC H pc Q)) (_:∀H',ax H H'->Q .non H')
theorem vj:az ["_law_one","_law_other","_law_side","_law_most"] ["_law_one","_law_other","_law_side","_law_most"] (am j8):=by walk_at "c"
theorem vH{f:Addr}(F:c8 K "_law_joined" "_law_joined" j8 f fd)(nb:NB mg):↑aV 1 f fd ["_law_one","_law_other","_law_side","_law_most"] m6:=by
 have sc:=vj;walk_at "f"
 ·obtain⟨a,b,p,q,r,c,r',c',sd,mo,rfl,D,C,j,g,hmo,Z,no⟩:=h
  have hp:=j.rc;have hq:=g.rc;have:=j.r6;have:=j.c6;have:=g.r6;have:=g.c6;have e1:=aW hp j.r0;have e2:=aW hq g.r0;refine⟨_,(ad (bB (PW.pt (iQ (cR (ak 2) λ_=>rfl) (iQ (aK gI (aC bo rfl nb.len bi (aa (ak 0) ac)) (aC bo rfl nb.len bi (aa (ak 1) ac)) (aZ _)) (jk (aK (bC.m0 iy) (aF (bC.m0 bY) (aC aS rfl nb.len bi (aa (aN bF (ak 0) aj (λ_ _=>rfl)) ac)) (aC aS rfl nb.len bi (aa (aN bF (ak 1) aj (λ_ _=>rfl)) ac))) (ak 3) (aZ _))))))
   (ai (aG (bW ["_law_left","_law_right"] [] rfl (bv.of (by kernel_rfl)) (by kernel_rfl) (Hj rfl nb.zip (aa (ak 0) (aa (ak 1) ac)))
    (λ_ _ _ _=>(nZ (K:=K) (n:=2) rfl rfl (aU (au (i:=0) (by show(["_law_left","_law_right"]:List Str).Nodup;decide +kernel) rfl (Or.inl rfl)) (aU (au (i:=1) (by show(["_law_left","_law_right"]:List Str).Nodup;decide +kernel) rfl (Or.inl rfl)) du)))) (λ_ _ _ _=>bQ) (λ_ _ _ _=>(aF ia (ak 0) (ak 1))))))
   aO)
   (ad (bB (PW.pt (iQ (dE (cR (ak 2) λ_=>rfl)) (iQ (aK gI (aC aS rfl nb.len bi (aa (aN bF (ak 0) aj (λ_ _=>rfl)) ac)) (aC aS rfl nb.len bi (aa (aN bF (ak 1) aj (λ_ _=>rfl)) ac)) (aZ _)) (jk (aK (bC.m0 iy) (aF (bC.m0 bY) (aC bo rfl nb.len bi (aa (ak 0) ac)) (aC bo rfl nb.len bi (aa (ak 1) ac))) (ak 3) (aZ _))))))
   (ai (aG (aF xv (cq bR rfl nb.list c7 (aa (ak 0) ac)) (cq bR rfl nb.list c7 (aa (ak 1) ac)))))
   aO)
   (ai (aG mM)))),?_⟩
  obtain⟨a0,U⟩:=i_ hp j.r0;obtain⟨R,m⟩:=i_ hq g.r0;have k:p.length=r:=hp.1;have I:q.length=r':=hq.1;have h0:je (av p) 0=some (V.str (tx p[0])):=(show je _ ((0:Nat):Int)=_ from bJ (br a0));have Y:je (av q) 0=some (V.str (tx q[0])):=(show je _ ((0:Nat):Int)=_ from bJ (br R));refine al λN1 h1=>?_;have cW:N1 [some (V.ref a),some (V.ref b),some (V.bl sd),some (V.int mo)] H:=by
   refine h1 _ _ ?_;clear h1;refine al λN1 h1=>?_;have cW:N1 [some (V.ref a),some (V.ref b),some (V.bl sd),some (V.int mo)] H:=by
    refine h1 _ _ ?_;ext;exact no H (ax.refl _)
   clear h1;ext;cases sd with
   |true=>rw[q06 nofun];exact cW
   |false=>
    rw[q07 rfl];refine⟨_,aI.of D,_,h0,_,rfl,by rw[aw];exact ar ⋯,_,aI.of C,_,Y,_,rfl,by rw[aw];exact ar ⋯,?_⟩;rw[aw,aw,U,m];refine fm (λt1=>?_) (λ_=>cW);refine⟨_,aI.of D,_,aI.of C,?_⟩;rw[ao,ao,k,I];refine fm (λt2=>?_) (λ_=>cW);refine⟨_,.inl (aI.of D),λl S=>⟨_,.inl (aI.of (af S _ _ C)),λl1 O=>⟨_,af O _ _ ae,_,ae,?_,λl2 M=>?_⟩⟩⟩
    ·rw[ao,ao];exact ar ⋯
    have s3:=(af (o:=.lst (av p)) S).trans (af (o:=.lst (av q)) O);refine Z (p++q) (λv=>?_) (λe=>nomatch e) (λ_=>by omega) l2 _ (n9 s3 M) ?_ (s3.trans (af M))
    ·show(if(p.headD []).length=(q.headD []).length/\p.length+q.length<=6 then some (p++q) else none)=some (p++q)
     rw[e1,e2,q07 ⋯]
    ·rw[ae];unfold av;rw[MN]
  clear h1;ext;cases sd with
  |false=>rw[q06 nofun];exact cW
  |true=>
   rw[q07 rfl];refine⟨_,aI.of D,_,aI.of C,?_⟩;rw[ao,ao,k,I];refine fm (λt1=>?_) (λ_=>cW);refine⟨_,aI.of D,_,h0,_,rfl,by rw[aw];exact ar ⋯,_,aI.of C,_,Y,_,rfl,by rw[aw];exact ar ⋯,?_⟩;rw[aw,aw,U,m];refine fm (λt2=>?_) (λ_=>cW);refine⟨_,aI.of D,_,aI.of C,?_⟩;have J:q.length=r:=by omega
   have L:(qW p q).length=r:=by unfold qW;rw[My,q0N,k,J,Nat.min_self]
   refine DD (xs:=av p) (ys:=av q) (n:=r) (by rw[ao,ao,k,J,Nat.min_self]) (λi d σ G=>ax H G/\d=av ((qW p q).take i)/\i<=r/\∃y z,σ=[y,z]) ⟨λ_ _ e=>e,rfl,MZ _,_,_,rfl⟩ ?_ ?_ ?_ ?_ ?_
   ·rintro i d σ G ⟨_,rfl,hi,_⟩
    rw[ao,Nf];exact aY ⋯
   ·rintro i d σ G ⟨_,_,h,_⟩
    exact h
   ·rintro i d σ G ⟨u,_⟩
    exact⟨aI.of (u _ _ D),aI.of (u _ _ C)⟩
   ·rintro i x y d σ G T hx hy ⟨u,rfl,_,y1,z1,rfl⟩ hT
    have hi:i<p.length:=by have:=(Mw.mp hx).1;rwa [ao]at this
    have B:i<q.length:=by omega
    rw[br hi]at hx;rw[br B]at hy;cases hx;cases hy;have hrow:=hp.2 _ (MG hi);have hrow':=hq.2 _ (MG B);ext;refine⟨_,cy.of ae,rfl,_,_,rfl,_,_,rfl,rfl,?_⟩;have e:(qW p q)[i]?=some (p[i]++q[i]):=by
     unfold qW;simp[List.getElem?_zip_eq_some,hi,B];exact⟨_,_,⟨rfl,rfl⟩,rfl⟩
    have et:tx p[i]++tx q[i]=tx (p[i]++q[i]):=by
     show(⟨_++_⟩:Str)=⟨_⟩;simp[tx]
    refine⟨_,rfl,_,rfl,by rw[aw,aw];exact ar ⋯,u.trans (af hT),?_,⋯⟩;rw[et,q0E,e];exact(cV _ _).symm
   ·rintro d σ G ⟨u,rfl,_⟩ l S
    refine Z (qW p q) (λv=>?_) (λ_=>by omega) (λe=>nomatch e) l _ (u.free S) ?_ (u.trans (af S))
    ·show(if p.length=q.length/\(p.headD []).length+(q.headD []).length<=6 then some (qW p q) else none)=some (qW p q)
     rw[e1,e2,q07 ⋯]
    ·rw[ae,<- L,Nd]
structure SI where
 nm:List Nat
 p:aB
 c:Int
structure FI where
 a:Addr
 v:V
 lp:Addr
 x:SI
def FI.at(z:FI)(H:Hp):Prop:=H z.a=some (.tup [z.v,.str (tx z.x.nm),.ref z.lp,.int z.x.c])/\True/\H z.lp=some (.lst (av z.x.p))/\z.x.p≠[]
theorem FI.at.up{z:FI}(h:z.at H)(s:ax H H'):z.at H':=⟨s _ _ h.1,trivial,s _ _ h.2.2.1,h.2.2.2⟩
def eJ(l:Addr)(H H':Hp):Prop:=∀y u,y≠l->H y=some u->H' y=some u
theorem eJ.of(s:ax H H'):eJ l H H':=λy u _ e=>s y u e
theorem eJ.trans{H1 H2:Hp}(a:eJ l H H1)(b:eJ l H1 H2):eJ l H H2:=λy u n e=>b y u n (a y u n e)
theorem eJ.put:eJ l H (aD H l o):=λy u n e=>by rw[aq n];exact e
theorem eJ.tups(s:eJ l H H'){as:NC}(hl:H l=some (.lst (as.map V.ref))):Eb H H':=λb xs h=>s b _ (λz=>by rw[z,hl]at h;cases h) h
theorem FI.at.keep{z:FI}{as:NC}(h:z.at H)(hl:H l=some (.lst (as.map V.ref)))(s:eJ l H H'):z.at H':=
 ⟨s.tups hl _ _ h.1,trivial,s _ _ (CH hl h.2.2.1 h.2.2.2) h.2.2.1,h.2.2.2⟩
structure DE(rs:Yaa)(sg:Ny)(p:aB)(lim:Int)(x:SI):Prop where
 sd:∃r c,jD sg x.p r c
 nm:x.nm∈p
 le:x.c<=lim
 dv:Dv rs (bc x.p,x.nm) x.c
inductive Nx(r:Nat×RV):List SI->aB->Prop
 |cell:r.1=0->Nx r [] [r.2.sg]
 |turn {x:SI}:r.1=3->x.nm=r.2.o1->Nx r [x] (turned x.p r.2.t.toNat)
 |pair {x y:SI} {pc:aB}:(r.1=1\/r.1=2)->x.nm=r.2.o1->y.nm=r.2.o2->vf r.1 r.2 [x.p,y.p]=some pc->Nx r [x,y] pc
theorem Nx.ne{pc:aB}(h:Nx r ys pc):ys.length<=2:=by cases h<;>simp
structure GS(H:Hp)(p:aB)(sg:Ny)(lim:Int)(lr ls:Addr)(ts:NC)(rs:Yaa)(zs:List FI):Prop where
 rows:gj H lr ts rs
 ro:∀r∈rs,kN p sg r
 st:H ls=some (.lst (zs.map λz=>V.ref z.a))
 at_:∀z∈zs,z.at H
 good:∀z∈zs,DE rs sg p lim z.x
 ne:lr≠ls
theorem GS.up{lim:Int}{lr ls:Addr}(g:GS H p sg lim lr ls ts rs zs)(s:ax H H'):GS H' p sg lim lr ls ts rs zs:=
 ⟨g.rows.up s,g.ro,s _ _ g.st,λz hz=>(g.at_ z hz).up s,g.good,g.ne⟩
theorem GS.st'{lim:Int}{lr ls:Addr}(g:GS H p sg lim lr ls ts rs zs):H ls=some (.lst ((zs.map FI.a).map V.ref)):=by rw[MP];exact g.st
theorem GS.row{lim:Int}{lr ls:Addr}(g:GS H p sg lim lr ls ts rs zs){t:Addr}{r:Nat×RV}(ht:H t=some (.tup (gM r)))(hr:kN p sg r):GS (aD H lr (.lst (ts.map V.ref++[V.ref t]))) p sg lim lr ls (ts++[t]) (rs++[r]) zs:=
 ⟨g.rows.app ht,λx hx=>by rcases MO.mp hx with h | h;exact g.ro x h;rw[Mz.mp h];exact hr,by rw[aq g.ne.symm];exact g.st,λz hz=>(g.at_ z hz).keep g.rows.1 eJ.put,λz hz=>⟨(g.good z hz).sd,(g.good z hz).nm,(g.good z hz).le,(g.good z hz).dv.more λx hx=>q0D _ hx⟩,g.ne⟩
theorem GS.item{lim:Int}{lr ls:Addr}(g:GS H p sg lim lr ls ts rs zs){z:FI}(hz:z.at H)(hg:DE rs sg p lim z.x):GS (aD H ls (.lst (zs.map (λz=>V.ref z.a)++[V.ref z.a]))) p sg lim lr ls ts rs (zs++[z]):=by
 have b:eJ ls H (aD H ls (.lst (zs.map (λz=>V.ref z.a)++[V.ref z.a]))):=eJ.put;refine⟨⟨b _ _ g.ne g.rows.1,g.rows.2.1,λi t r e d=>b.tups g.st' _ _ (g.rows.2.2 i t r e d)⟩,g.ro,by rw[ae,MN];rfl,λy c=>?_,λy c=>?_,g.ne⟩
 ·rcases MO.mp c with h | h
  ·exact(g.at_ y h).keep g.st' b
  ·rw[Mz.mp h];exact hz.keep g.st' b
 ·rcases MO.mp c with h | h
  ·exact g.good y h
  ·rw[Mz.mp h];exact hg
def Cw(lr ls:Addr)(H H':Hp):Prop:=∀y u,y≠lr->y≠ls->H y=some u->H' y=some u
theorem Nx.dv{rs:Yaa}{n:Nat}{r r':Nat×RV}{pc:aB}(hg:∀r∈rs,kN p sg r)(h:Nx r ys pc)(e:rs[n]?=some r')(as:oO r' r)(ok:vc pc)(hy:∀y∈ys,(∃a c,jD sg y.p a c)/\Dv rs (bc y.p,y.nm) y.c) :
  Dv rs (bc pc,r'.2.n) (r'.2.c+(ys.map SI.c).sum):=by
 have o:=MB e;have l:=(hg _ o).good.good;obtain⟨j,b⟩:=r';obtain⟨k,v⟩:=r;have C:j=k:=as.k;subst C;cases h with
 |cell h=>
  have h:j=0:=h;subst h;have B:b.sg=v.sg:=as.sg rfl;exact(Dv.leaf o ok (by show[]∈(if bc [v.sg]=b.sg then[[]] else[]);rw[q07 (show bc [v.sg]=b.sg from B.symm)];exact Mz.mpr rfl)).eq rfl (by simp)
 | @turn x h i=>
  have h:j=3:=h;subst h;obtain⟨⟨a,c,s⟩,d⟩:=hy x (by simp);have w:b.o1=v.o1:=as.o1 (show(3:Nat)≠0 by decide);have u:b.t=v.t:=as.t rfl;have i:x.nm=b.o1:=by rw[w];exact i
  have t0:0<=b.t:=l.t0;have t7:b.t<=7:=l.t7;refine(Dv.one o ok (k:=(bc x.p,b.o1)) ?_ (by rw[<- i];exact d)).eq rfl (by simp);show _∈[[(bc (turned (turned x.p v.t.toNat) (cW b.t.toNat)),b.o1)]];rw[u,i' s.p6.rc s.p6.r0 s.p6.c0 ⋯];exact Mz.mpr rfl
 | @pair x y _ h i g m=>
  obtain⟨⟨a,c,s⟩,d⟩:=hy x (by simp);obtain⟨⟨a2,c2,q⟩,D⟩:=hy y (by simp);have i:x.nm=b.o1:=by rw[show b.o1=v.o1 from as.o1 (by rcases h with h | h<;>(have h:j=_:=h;subst h;exact λz=>by cases z))];exact i
  have g:y.nm=b.o2:=by rw[show b.o2=v.o2 from as.o2 h];exact g
  exact(Dv.two o ok (Bj (x:=(j,b)) h s.p6 q.p6 m) (by rw[<- i];exact d) (by rw[<- g];exact D)).eq rfl (by simp;omega)
abbrev s_:Stmt:=eU 76
inductive pS(vs:List V)(H:Hp)(Q:VK)(_E:XK):Prop
 |mk (lr ls tw la tm lq:Addr) (b:Bool) (ts:NC) (rs:Yaa) (zs ys:List FI) (r:Nat×RV) (pc:aB) (p:aB) (sg:Ny) (lim:Int) (_:vs=[.ref lr,.ref ls,.ref tw,.bl b,.ref la,.ref tm]) (_:GS H p sg lim lr ls ts rs zs) (_:H tw=some (.tup (gM r))) (_:kN p sg r) (_:rs.length<24) (_:zs.length<=100) (_:H la=some (.lst (ys.map λz=>V.ref z.a))) (_:la≠lr) (_:la≠ls) (_:(∀y∈ys,y∈zs)) (_:H tm=some (.tup [.ref lq,.int lim])) (_:H lq=some (.lst (av pc))) (_:pc≠[]) (_:Nx r (ys.map FI.x) pc) (_:(∃a b,jD sg pc a b)) (_:vc pc) (_:∀H' ts' rs' zs',GS H' p sg lim lr ls ts' rs' zs'->Cw lr ls H H'->rs'.length<=rs.length+1->zs'.length<=zs.length+1->(zs≠[]\/(rs=[]/\r.1=0/\r.2.c<=lim)->zs'≠[])->Q .non H')
theorem Ci:az ["_law_rules","_law_stock","_law_wanted","_law_again","_law_parts","_law_made","_law_k","_law_cost"] ["_law_rules","_law_stock","_law_wanted","_law_again","_law_parts","_law_made"] (am s_):=by walk_at "c"
theorem zG(r:Nat×RV):je (gM r) 0=some (.str (tx r.2.n))/\je (gM r) 1=some (.int r.2.c):=by
 obtain⟨k,v⟩:=r
 match k with
 |0=>exact⟨rfl,rfl⟩
 |1=>exact⟨rfl,rfl⟩
 |2=>exact⟨rfl,rfl⟩
 |k+3=>exact⟨rfl,rfl⟩
theorem Nx.cell0{pc:aB}(h:Nx r ys pc)(h1:r.1=0):ys=[]:=by
 cases h with
 |cell _=>rfl
 |turn e=>rw[h1]at e;cases e
 |pair e=>rw[h1]at e;rcases e with e | e<;>cases e
theorem Cd{f:Addr}(F:c8 K "_law_put" "_law_put" s_ f fd)(nb:NB mg)(ybT:mg "sum"=none)(zGb:↑df 1 "_law_noted" ["_law_rules","_law_wanted","_law_again"] pd):↑aV 2 f fd ["_law_rules","_law_stock","_law_wanted","_law_again","_law_parts","_law_made"] pS:=by
 have sc:=Ci;walk_at "f"
 ·obtain⟨lr,ls,tw,la,tm,lq,b,ts,rs,zs,C,r,pc,p,sg,a0,rfl,g,a2,a6,c3,hz100,c1,b2,nls,S,b5,b0,a7,nx,h6,ok,q⟩:=h
  have hu:=hr.units;refine⟨_,(ad (q01 6 sc.nd (aH zGb (hr.mono nofun) rfl aM (aa (ak 0) (aa (ak 2) (aa (ak 3) ac)))))
   (ad (q01 7 sc.nd (aF (bC.m0 bY) (aN aQ (aN bF (ak 0) (ak 6) (λ_ _=>rfl)) aj (λ_ _=>rfl)) (aC (AJ rfl) rfl ybT G9 (aa (bW ["_law_part"] [] rfl (bv.of (by kernel_rfl)) (by kernel_rfl) (aR (ak 4))
    (λ_ _ _ _=>(au (i:=0) (by show(["_law_part"]:List Str).Nodup;decide +kernel) rfl (Or.inl rfl))) (λ_ _ _ _=>bQ) (λ_ _ _ _=>(aN (ju (K:=K) rfl) (ak 0) aj (λ_ _=>rfl)))) ac))))
   (ai (bB (aK (bC.m0 iy) (ak 7) (aN aQ (ak 5) aj (λ_ _=>rfl)) (aZ _))
   (ai (ba (dU PySem.F.plainAttrs_list PySem.F.slot_list_append PySem.F.type_list_append cg (ak 1) (aa (bH (aa (aF D' (bH (aa (ak 6) ac)) (cq qB rfl nb.tuple wm (aa (bW ["_law_part"] [] rfl (bv.of (by kernel_rfl)) (by kernel_rfl) (aR (ak 4))
    (λ_ _ _ _=>(au (i:=0) (by show(["_law_part"]:List Str).Nodup;decide +kernel) rfl (Or.inl rfl))) (λ_ _ _ _=>bQ) (λ_ _ _ _=>(aN (ju (K:=K) rfl) (ak 0) aj (λ_ _=>rfl)))) ac))) (aa (aN aQ (aN bF (ak 0) (ak 6) (λ_ _=>rfl)) aj (λ_ _=>rfl)) (aa (aN aQ (ak 5) aj (λ_ _=>rfl)) (aa (ak 7) ac))))) ac))))
   aO)))),?_⟩
  refine al λN1 h1=>?_;have go:∀(k:Nat) (d:Nat×RV) (B:NC) (j:Yaa) (H1:Hp),GS H1 p sg a0 lr ls B j zs->j[k]?=some d->oO d r->j.length<=rs.length+1->eJ lr H H1->(rs=[]->d=r)->N1 [some (V.ref lr),some (V.ref ls),some (V.ref tw),some (V.bl b),some (V.ref la),some (V.ref tm),some (V.int (k:Int)),none] H1:=by
   intro k d B j H1 D O has M hE a8;refine h1 _ _ ?_;clear h1;have m:=hE _ _ b2 c1;have J:=hE.tups g.rows.1 _ _ b5;have a9:=hE _ _ (CH g.rows.1 b0 a7) b0;have b4:=nx.ne;rw[My]at b4;obtain⟨tk,a3⟩:∃tk,B[k]?=some tk:=⟨_,Mv (by have:=(Mw.mp O).1;have:=D.rows.2.1;omega)⟩;have b1:je (B.map V.ref) (k:Int)=some (V.ref tk):=bJ (by rw[MA,a3];rfl);have L:=D.rows.2.2 k tk d a3 O;symm;have a1:∀y∈C,y.at H1:=λy hy=>D.at_ y (S y hy);refine⟨_,aI.of D.rows.1,_,b1,_,rfl,_,cy.of L,_,(zG d).2,⟨_,aI.of m⟩,?_⟩;refine d0 (as:=C) (emb:=λz=>V.ref z.a) (f:=λz=>some (V.int z.x.c)) (λσ=>∃x,σ=[x]) ⟨_,rfl⟩ (λH' s=>aI.of (s _ _ m)) ⋯ ?_ ?_
   ·rintro i z U σ H' M1 M0 ⟨y,rfl⟩ Z k1 k0
    ext;exact⟨_,cy.of (Z _ _ (a1 z (MB U)).1),_,rfl,k1 _ _ _ rfl Z ⟨_,rfl⟩⟩
   intro H2 s2 l hl;rw[jt];refine⟨C.map λz=>z.x.c,by rw[MP];exact aI.of ae,_,rfl,h1 _ _ ?_⟩;clear h1;have s3:=s2.trans (af (o:=.lst (C.map λz=>V.int z.x.c)) hl);generalize aD H2 l (.lst (C.map λz=>V.int z.x.c))=H3 at s3 ⊢;clear s2 hl H2;have g3:=D.up s3;have a4:(C.map λz=>z.x.c).sum=((C.map FI.x).map SI.c).sum:=by rw[MP];rfl
   have a5:=nx.dv D.ro O has ok λy hy=>by
    obtain⟨z,U,rfl⟩:=Nj.mp hy;exact⟨(D.good z (S z U)).sd,(D.good z (S z U)).dv⟩
   rw[a4];generalize T:d.2.c+((C.map FI.x).map SI.c).sum=cost at a5 ⊢;have hB:∀{H4},ax H3 H4->Cw lr ls H H4:=λs4 y u n1 _ e=>s4 _ _ (s3 _ _ (hE y u n1 e));ext;refine⟨_,cy.of (s3 _ _ J),_,rfl,_,rfl,?_⟩;refine fm (λt1=>?_) (λt1=>?_)
   ·refine⟨.inl ⟨rfl,_,aI.of g3.st⟩,ar nofun,λp1 b8=>?_⟩
    have s4:=af (o:=.tup [V.int (k:Int)]) b8;have e4:aD H3 p1 (.tup [V.int (k:Int)]) p1=some (.tup [V.int (k:Int)]):=ae;generalize aD H3 p1 (.tup [V.int (k:Int)])=H4 at s4 e4 ⊢;have G:=s3.trans s4;refine⟨⟨_,aI.of (G _ _ m)⟩,?_⟩;refine d0 (as:=C) (emb:=λz=>V.ref z.a) (f:=λz=>some z.v) (λσ=>∃x,σ=[x]) ⟨_,rfl⟩ (λH' s=>aI.of (s _ _ (G _ _ m))) ⋯ ?_ ?_
    ·rintro i z U σ H' M1 M0 ⟨y,rfl⟩ Z k1 k0
     ext;exact⟨_,cy.of (Z _ _ (G _ _ (a1 z (MB U)).1)),_,rfl,k1 _ _ _ rfl Z ⟨_,rfl⟩⟩
    intro H5 s5 l hl;rw[jt];refine⟨_,.inl ⟨aI.of ae,λl4 c2=>?_⟩⟩;have sB:=(af (o:=.lst (C.map λz=>z.v)) hl).trans (af (o:=.tup (C.map λz=>z.v)) c2);refine Bt (sB _ _ (s5 _ _ e4)) ae (by simp) (by simp;omega) λY H6 htr s6=>?_;have I:=G.trans ((s5.trans sB).trans s6);have g6:=D.up I;refine⟨_,aI.of g6.rows.1,_,b1,_,rfl,_,cy.of (I _ _ L),_,(zG d).1,_,cy.of (I _ _ J),_,rfl,ar nofun,λnp c0=>?_⟩;have s7:=af (o:=.tup [V.ref Y,V.str (tx d.2.n),V.ref lq,V.int cost]) c0;have e7:aD H6 np (.tup [V.ref Y,V.str (tx d.2.n),V.ref lq,V.int cost]) np=some (.tup [V.ref Y,V.str (tx d.2.n),V.ref lq,V.int cost]):=ae;generalize aD H6 np (.tup [V.ref Y,V.str (tx d.2.n),V.ref lq,V.int cost])=H7 at s7 e7 ⊢;have R:=I.trans s7;have g7:=D.up R;have b3:FI.at ⟨np,V.ref Y,lq,⟨d.2.n,pc,cost⟩⟩ H7:=⟨e7,trivial,R _ _ a9,a7⟩;have gd:DE j sg p a0 ⟨d.2.n,pc,cost⟩:=⟨h6,(D.ro _ (MB O)).n,t1,a5⟩;refine⟨_,g7.st,by rw[My];exact aY ⋯,?_⟩;exact q _ B j _ (g7.item b3 gd) (λy u n1 n2 e=>by rw[aq n2];exact R _ _ (hE y u n1 e)) M (by simp) (λ_=>by simp)
   ·refine q H3 B j zs g3 (hB (ax.refl _)) M ⋯ λh=>?_
    rcases h with h | ⟨h0,h1,h2⟩
    ·exact h
    ·refine q0Q ?_ t1
     have er:=a8 h0;subst er;rw[<- T];rw[nx.cell0 h1]
     simpa using h2
  clear h1;ext;refine⟨lr,tw,b,ts,rs,r,rfl,g.rows,λx hx=>(g.ro x hx).good.k4,a2,a6.good.k4,c3,λk d H1 O has s1=>?_,λH0 s0=>?_⟩
  ·exact go k d ts rs H1 (g.up s1) O has ⋯ (.of s1) (λe=>by rw[e]at O;simp at O)
  ·exact go rs.length r _ _ _ ((g.up s0).row (s0 _ _ a2) a6) (by simp) (oO.rfl' r) (by simp) ((eJ.of s0).trans eJ.put) (λ_=>rfl)
abbrev pQ:Stmt:=eU 77
inductive rH(vs:List V)(H:Hp)(Q:VK)(_E:XK):Prop
 |mk (lr ls td lb:Addr) (ts:NC) (rs:Yaa) (zs:List FI) (p:aB) (sg:Ny) (c dear side lim:Int) (_:vs=[.ref lr,.ref ls,.int c,.ref td]) (_:GS H p sg lim lr ls ts rs zs) (_:H td=some (.tup [.str (tx sg),.ref lb,.int dear,.int side,.int lim])) (_:H lb=some (.lst (av p))) (_:p.length=4) (_:(∀r∈p,dg r=true)) (_:dy sg=true) (_:1<=dear) (_:dear<=9) (_:dear<=lim) (_:side<=3) (_:rs.length<24) (_:zs.length<=100) (_:∀H' ts' rs' zs',GS H' p sg lim lr ls ts' rs' zs'->Cw lr ls H H'->rs'.length<=rs.length+1->zs'.length<=zs.length+1->(zs≠[]\/rs=[]->zs'≠[])->Q .non H')
theorem Au:az ["_law_rules","_law_stock","_law_cell_here","_law_drawn","_law_signs_here","_law_names_here","_law_dear","_law_side","_law_limit","_law_kind","_law_again","_law_name","_law_cost","_law_rest","_law_sign","_law_one","_law_made","_law_other","_law_way","_law_picture_here"] ["_law_rules","_law_stock","_law_cell_here","_law_drawn"] (am pQ):=by walk_at "c"
theorem Em(h:dy sg=true):∀s∈sg,s≠47:=λs hs e=>by
 have:=tP h hs;rw[e]at this;exact q0Q this (by decide +kernel)
theorem A7{f:Addr}(F:c8 K "_law_step" "_law_step" pQ f fd)(nb:NB mg)(zmb:↑df 2 "_law_put" ["_law_rules","_law_stock","_law_wanted","_law_again","_law_parts","_law_made"] pS)(zvb:↑df 1 "_law_turned" ["_law_picture_here","_law_t"] (m9 K))(zwb:↑df 1 "_law_joined" ["_law_one","_law_other","_law_side","_law_most"] m6):↑aV 3 f fd ["_law_rules","_law_stock","_law_cell_here","_law_drawn"] rH:=by
 have sc:=Au;walk_at "f"
 ·obtain⟨lr,ls,td,lb,ts,rs,T,p,sg,c,C,a2,l,rfl,g,f8,g1,hp4,c4,b0,hd1,hd9,hdl,hs6,f2,a4,q⟩:=h
  have hu:=hr.units;refine⟨_,(ad (yw (ak 3) (fT (n:=5) rfl (aU (q02 4 sc.nd) (aU (q02 5 sc.nd) (aU (q02 6 sc.nd) (aU (q02 7 sc.nd) (aU (q02 8 sc.nd) du)))))))
   (ad (q01 9 sc.nd (aF (bC.m1 bO) (ak 2) aj))
   (ad (q01 10 sc.nd (jv gI (aF (bC.m1 bO) (aF (bC.m1 b7) (ak 2) aj) aj) aj (aZ _)))
   (ad (q01 11 sc.nd (aN bF (ak 5) (aF (bC.m1 bO) (aF (bC.m1 b7) (ak 2) aj) aj) (λ_ _=>rfl)))
   (ad (q01 12 sc.nd (aF (bC.m0 bY) aj (aF (bC.m1 bO) (aF (bC.m1 b7) (ak 2) aj) (ak 6))))
   (ad (q01 13 sc.nd (aF (bC.m1 b7) (aF (bC.m1 b7) (ak 2) aj) (ak 6)))
   (ad (bB (PW.pt (il (aK gI (ak 9) aj (aZ _)) (gX (aK gI (aC bo rfl nb.len bi (aa (ak 1) ac)) aj (aZ _)))))
   (ad (q01 14 sc.nd (aN lJ (ak 4) (aF (bC.m1 bO) (ak 13) (aC aS rfl nb.len bi (aa (ak 4) ac))) (λ_ _=>rfl)))
   (ad (ba (aH zmb (hr.mono nofun) rfl aM (aa (ak 0) (aa (ak 1) (aa (bH (aa (ak 11) (aa (ak 12) (ci (aa (ak 14) (iR ac)))))) (aa (ak 10) (aa (bh ac) (aa (bH (aa (bh (aa (ak 14) ac)) (aa (ak 8) ac))) ac))))))))
   (ai u5)))
   aO)
   (ad (q01 15 sc.nd (aN bF (ak 1) (aF (bC.m1 bO) (ak 13) (aC bo rfl nb.len bi (aa (ak 1) ac))) (λ_ _=>rfl)))
   (ad (q01 13 sc.nd (aF (bC.m1 b7) (ak 13) (aC bo rfl nb.len bi (aa (ak 1) ac))))
   (ad (bB (aK gI (ak 9) aj (aZ _))
   (ad (q01 16 sc.nd (bH (aa (aH zvb (hr.mono nofun) rfl aM (aa (aN aQ (ak 15) aj (λ_ _=>rfl)) (aa (aF (bC.m1 bO) (ak 13) aj) ac))) (aa (ak 8) ac))))
   (ad (ba (aH zmb (hr.mono nofun) rfl aM (aa (ak 0) (aa (ak 1) (aa (bH (aa (ak 11) (aa (ak 12) (ci (aa (aN aQ (ak 15) aj (λ_ _=>rfl)) (aa (aF (bC.m1 bO) (ak 13) aj) ac)))))) (aa (ak 10) (aa (bh (aa (ak 15) ac)) (aa (ak 16) ac))))))))
   (ai u5)))
   aO)
   (ad (q01 17 sc.nd (aN bF (ak 1) (aF (bC.m1 bO) (ak 13) (aC bo rfl nb.len bi (aa (ak 1) ac))) (λ_ _=>rfl)))
   (ai (aX PassesOwn.never rfl (Gg (bH (aa (ak 9) (aa (aF (bC.m0 lP) aj (ak 9)) ac)))) (q02 18 sc.nd)
   (ad (q01 19 sc.nd (aH zwb (hr.mono nofun) rfl aM (aa (aN aQ (ak 15) aj (λ_ _=>rfl)) (aa (aN aQ (ak 17) aj (λ_ _=>rfl)) (aa (jv gI (ak 18) aj (aZ _)) (aa (ak 7) ac))))))
   (ai (bB (aK y_ (ak 19) mM (aZ _))
   (ad (ba (aH zmb (hr.mono nofun) rfl aM (aa (ak 0) (aa (ak 1) (aa (bH (aa (ak 11) (aa (ak 12) (aa (ak 18) (aa (aN aQ (ak 15) aj (λ_ _=>rfl)) (aa (aN aQ (ak 17) aj (λ_ _=>rfl)) ac)))))) (aa (ak 10) (aa (bh (aa (ak 15) (aa (ak 17) ac))) (aa (bH (aa (ak 19) (aa (ak 8) ac))) ac))))))))
   (ai u5))
   aO)))))))))))))))),?_⟩
  symm;refine⟨_,cy.of f8,rfl,_,_,rfl,_,_,rfl,_,_,rfl,_,_,rfl,_,_,rfl,rfl,h1 _ _ ?_⟩;grind;refine h1 _ _ ?_;grind;refine h1 _ _ ?_;grind;have hsl:=j7 b0;have e6:∀x:Int,∃z∈p,je (av p) (x%4)=some (V.str (tx z)):=λx=>by
   obtain⟨j,hj⟩:∃j:Nat,x%4=(j:Int):=⟨_,(Nq (No _ ⋯)).symm⟩;have:x%4<4:=Np _ ⋯;exact⟨p[j]'⋯,MG _,by rw[hj];exact bJ (br ⋯)⟩
  have d5:∀x:Int,∃c∈sg,je (tx sg).cps.toList (x%(sg.length:Int))=some c:=λx=>by
   rw[cE];exact xB (No _ ⋯) (Np _ ⋯)
  have hsz:(tx sg).length<=sizeLine:=by rw[aw];exact ar ⋯
  obtain⟨nm,a5,p1⟩:=e6 (c/8);refine⟨_,aI.of g1,_,p1,h1 _ _ ?_⟩;grind;have c0:0<=c/32%C:=No _ ⋯;have c9:c/32%C<C:=Np _ ⋯;refine⟨⋯,h1 _ _ ?_⟩;clear h1;obtain⟨B,g3⟩:∃B,1+c/32%C=B:=⟨_,rfl⟩;rw[g3];symm;refine⟨⋯,⋯,h1 _ _ ?_⟩;clear h1;generalize c/32/C=re;have gd:∀(k:Nat) (d I:Ny) (G:Nat) (U:Int),k<4->d∈p->I∈p->G∈sg->0<=U->U<=7->kN p sg (k,⟨nm,B,d,I,[G],U⟩):=λk d I G U hk h1 h2 h3 t0 t7=>by
   have g:RV.good ⟨nm,B,d,I,[G],U⟩:=⟨c4 _ a5,by show 1<=B;omega,by show B<=9;omega,c4 _ h1,c4 _ h2,tP b0 h3,t0,t7⟩;exact⟨⟨hk,g,g.small⟩,a5,h1,h2,G,h3,rfl⟩
  generalize hag:decide (c/4%2=0)=ag;have d3:∀{S:List FI} {r:Nat×RV},r.2.c=B->(T≠[]\/(rs=[]/\r.1=0/\r.2.c<=l)->S≠[])->r.1=0\/T≠[]->(T≠[]\/rs=[]->S≠[]):=fun{S r} hc h h0 h1=>by
   refine h ?_;rcases h1 with h1 | h1
   ·exact .inl h1
   ·rcases h0 with h0 | h0
    ·exact .inr ⟨h1,h0,⋯⟩
    ·exact .inl h0
  refine al λN1 h1=>?_;refine DL λtb ub et eu=>?_;ext;have b8:∀{D:fE},D.rt=Q->tb D [some (V.ref lr),some (V.ref ls),some (V.int c),some (V.ref td),some (V.str (tx sg)),some (V.ref lb),some (V.int C),some (V.int a2),some (V.int l),some (V.int (c%4)),some (V.bl ag),some (V.str (tx nm)),some (V.int B),some (V.int re),none,none,none,none,none,none] H:=fun{D} hD=>by
   rw[et];ext;rw[aw];obtain⟨G,a8,pc⟩:=d5 re;have f0:sg.length<=sizeLine:=ar ⋯;refine⟨f0,⋯,f0,G,pc,ar nofun,λR Y=>⟨MZ _,λO m=>⟨ar nofun,λL a6=>⟨ar nofun,λtm J=>?_⟩⟩⟩⟩;have r0:=gd 0 nm nm G 0 nofun a5 a5 a8 nofun nofun;have b1:∃a b,jD sg [[G]] a b:=⟨1,1,⟨⟨rfl,λx hx=>by rw[Mz.mp hx];rfl⟩,nofun,nofun,nofun,nofun⟩,nofun,nofun,λx hx s hs=>by rw[Mz.mp hx]at hs;rw[Mz.mp hs];exact a8⟩;generalize hr:(⟨nm,B,nm,nm,[G],0⟩:RV)=rv at r0;have e1:aD H R (.tup [V.str (tx nm),V.int B,V.int 0,V.str ⟨#[G]⟩,V.str (Str.ofString "")]) R=some (.tup (gM (0,rv))):=by rw[ae,<- hr];rfl
   have s1:=af (o:=.tup [V.str (tx nm),V.int B,V.int 0,V.str ⟨#[G]⟩,V.str (Str.ofString "")]) Y;generalize aD H R (.tup [V.str (tx nm),V.int B,V.int 0,V.str ⟨#[G]⟩,V.str (Str.ofString "")])=H1 at s1 e1 m a6 J ⊢;have s2:=af (o:=.lst []) m;have e2:aD H1 O (.lst []) O=some (.lst []):=ae;generalize aD H1 O (.lst [])=H2 at s2 e2 a6 J ⊢;have s3:=af (o:=.lst [V.str ⟨#[G]⟩]) a6;have e3:aD H2 L (.lst [V.str ⟨#[G]⟩]) L=some (.lst (av [rv.sg])):=by rw[ae,<- hr];rfl
   generalize aD H2 L (.lst [V.str ⟨#[G]⟩])=H3 at s3 e3 J ⊢;have s4:=af (o:=.tup [V.ref L,V.int l]) J;have e4:aD H3 tm (.tup [V.ref L,V.int l]) tm=some (.tup [V.ref L,V.int l]):=ae;generalize aD H3 tm (.tup [V.ref L,V.int l])=H4 at s4 e4 ⊢;have d6:=s3.trans s4;have d7:=s2.trans d6;have e0:=s1.trans d7;have b1:∃a b,jD sg [rv.sg] a b:=by rw[<- hr];exact b1
   have nl:∀{x u},H x=some u->O≠x:=λe z=>by rw[<- z,n9 s1 m]at e;cases e
   refine⟨lr,ls,R,O,tm,L,ag,ts,rs,T,[],(0,rv),[rv.sg],p,sg,l,rfl,g.up e0,d7 _ _ e1,r0,f2,a4,d6 _ _ e2,nl g.rows.1,nl g.st,λy hy=>(nomatch hy),e4,s4 _ _ e3,by simp,Nx.cell rfl,b1,b1.elim λ_ h=>h.elim λ_ h=>h.ok (Em b0),λH' c1 c3 S g' sB l1 l2 c5=>?_⟩;rw[hD];exact q H' c1 c3 S g' (λy u n1 n2 e=>sB y u n1 n2 (e0 _ _ e)) l1 l2 (d3 (by rw[<- hr]) c5 (.inl rfl))
  refine fm (λ_=>b8 rfl) (λk0=>⟨_,aI.of g.st,?_⟩);rw[My];refine fm (λ_=>b8 rfl) (λz0=>?_);clear b8;rw[eu];clear et eu tb ub;have e7:1<=T.length:=by omega
  have e8:T≠[]:=λe=>by rw[e]at e7;simp at e7
  have d4:∀x:Int,∃z∈T,je (T.map λz=>V.ref z.a) (x%(T.length:Int))=some (V.ref z.a):=λx=>by
   obtain⟨v,hv,e⟩:=xB (xs:=T.map λz=>V.ref z.a) (No x (show(T.length:Int)≠0 by omega)) (by rw[My];exact Np _ ⋯);obtain⟨z,hz,rfl⟩:=Nj.mp hv;exact⟨z,hz,e⟩
  ext;refine h1 _ _ ?_;grind;obtain⟨d,Z,f7⟩:=d4 re;refine⟨_,aI.of g.st,by rw[My];omega,_,aI.of g.st,_,by rw[My];exact f7,h1 _ _ ?_⟩;grind;refine⟨_,aI.of g.st,by rw[My];omega,by rw[My];omega,h1 _ _ ?_⟩;clear h1;rw[My];generalize re/(T.length:Int)=re2;have a0:=g.at_ d Z;have b4:=g.good d Z;obtain⟨zr,zc,b3⟩:=b4.sd;have zp:=b3.p6;have zr6:zr<=6:=zp.r6;have zc6:zc<=6:=zp.c6;obtain⟨G,a8,_⟩:=d5 0;have dW:∀{H5:Hp} {R O tm L:Addr} {ys:List FI} {r:Nat×RV} {pc:aB},ax H H5->H5 R=some (.tup (gM r))->kN p sg r->r.2.c=B->H5 O=some (.lst (ys.map λz=>V.ref z.a))->H O=none->(∀y∈ys,y∈T)->H5 tm=some (.tup [.ref L,.int l])->H5 L=some (.lst (av pc))->(∃a b,jD sg pc a b)->Nx r (ys.map FI.x) pc->pS [.ref lr,.ref ls,.ref R,.bl ag,.ref O,.ref tm] H5 (λ_ H1=>Q .non H1) E0:=fun{H5 R O tm L ys r pc} s5 e1 hro hc0 e2 m hys e3 e4 a1 nx=>by
   have nl:∀{x u},H x=some u->O≠x:=λe z=>by rw[<- z,m]at e;cases e
   have f1:=a1;obtain⟨a,b,p6⟩:=a1;refine⟨lr,ls,R,O,tm,L,ag,ts,rs,T,ys,r,pc,p,sg,l,rfl,g.up s5,e1,hro,f2,a4,e2,nl g.rows.1,nl g.st,hys,e3,e4,λe=>?_,nx,f1,p6.ok (Em b0),λH' c1 c3 S g' sB l1 l2 c5=>?_⟩
   ·have h1:=p6.p6.rc.1
    have h2:=p6.p6.r0;rw[e]at h1;rw[<- h1]at h2;cases h2
   ·exact q H' c1 c3 S g' (λy u n1 n2 e=>sB y u n1 n2 (s5 _ _ e)) l1 l2 (d3 hc0 c5 (.inr e8))
  refine al λN1 h1=>?_;refine DL λtb ub et eu=>?_;ext;refine fm (λk3=>?_) (λk3=>?_)
  ·rw[et]
   clear et eu tb ub h1;symm;obtain⟨U,e9,f9⟩:∃U:Nat,re2%8=(U:Int)/\U<8:=⟨(re2%8).toNat,⋯,⋯⟩;rw[e9];refine⟨_,cy.of a0.1,_,rfl,d.lp,d.x.p,zr,zc,U,rfl,a0.2.2.1,zp.rc,zp.r0,zp.c0,⋯,⋯,f9,λL H1 a6 d1 s1=>⟨ar nofun,λtm J=>h1 _ _ ?_⟩⟩;clear h1;have s2:=af (o:=.tup [V.ref L,V.int l]) J;have e2:aD H1 tm (.tup [V.ref L,V.int l]) tm=some (.tup [V.ref L,V.int l]):=ae;generalize aD H1 tm (.tup [V.ref L,V.int l])=H2 at s2 e2 ⊢;have M:=s1.trans s2;ext;rw[e9];refine⟨_,cy.of (M _ _ a0.1),_,rfl,ar nofun,λR Y=>⟨ar nofun,λO m=>?_⟩⟩;have a7:H O=none:=n9 (M.trans (af Y)) m;have e3:aD H2 R (.tup [V.str (tx nm),V.int B,V.int 3,V.str (tx d.x.nm),V.int (U:Int)]) R=some (.tup (gM (3,⟨nm,B,d.x.nm,nm,[G],(U:Int)⟩))):=ae;have s3:=af (o:=.tup [V.str (tx nm),V.int B,V.int 3,V.str (tx d.x.nm),V.int (U:Int)]) Y;generalize aD H2 R (.tup [V.str (tx nm),V.int B,V.int 3,V.str (tx d.x.nm),V.int (U:Int)])=H3 at s3 e3 m ⊢;have s4:=af (o:=.lst [V.ref d.a]) m;exact dW ((M.trans s3).trans s4) (s4 _ _ e3) (gd 3 _ _ G _ nofun b4.nm a5 a8 ⋯ ⋯) rfl (ys:=[d]) ae a7 (λy hy=>by rw[Mz.mp hy];exact Z) (s4 _ _ (s3 _ _ e2)) (s4 _ _ (s3 _ _ (s2 _ _ d1))) (b3.turn U) (Nx.turn (x:=d.x) rfl rfl)
  ·rw[eu]
   clear et eu tb ub;ext;refine h1 _ _ ?_;grind;obtain⟨I,a3,f6⟩:=d4 re2;refine⟨_,aI.of g.st,by rw[My];omega,_,aI.of g.st,_,by rw[My];exact f6,h1 _ _ ?_⟩;clear h1;have b5:=g.at_ I a3;have d2:=g.good I a3;obtain⟨f3,f5,b2⟩:=d2.sd;have f4:=b2.p6;ext;refine⟨ar nofun,λpt g0=>?_⟩;have s1:=af (o:=.tup [V.int (c%4),V.int (3-c%4)]) g0;have e1:aD H pt (.tup [V.int (c%4),V.int (3-c%4)]) pt=some (.tup [V.int (c%4),V.int (3-c%4)]):=ae;generalize aD H pt (.tup [V.int (c%4),V.int (3-c%4)])=H1 at s1 e1 ⊢;refine⟨⟨_,cy.of e1⟩,?_⟩;refine Ce (xs:=[V.int (c%4),V.int (3-c%4)]) (λi σ H'=>ax H1 H'/\∃y2 y3,σ=[some (V.ref lr),some (V.ref ls),some (V.int c),some (V.ref td),some (V.str (tx sg)),some (V.ref lb),some (V.int C),some (V.int a2),some (V.int l),some (V.int (c%4)),some (V.bl ag),some (V.str (tx nm)),some (V.int B),some (V.int re2),none,some (V.ref d.a),none,some (V.ref I.a),y2,y3]) ⟨ax.refl _,_,_,rfl⟩ (λi σ H' _ h=>cy.of (h.1 _ _ e1)) ?_ ?_
   ·rintro i x σ H2 hx ⟨s2,y2,y3,rfl⟩
    obtain⟨k,hk,rfl⟩:∃k:Nat,(k=1\/k=2)/\x=V.int (k:Int):=by
     have g4:c%4=1\/c%4=2:=by omega
     have hm:=MB hx;rcases g4 with e | e<;>rw[e]at hm<;>(rcases MQ.mp hm with rfl | hm)
     ·exact⟨1,.inl rfl,rfl⟩
     ·rw[Mz.mp hm];exact⟨2,.inr rfl,rfl⟩
     ·exact⟨2,.inr rfl,rfl⟩
     ·rw[Mz.mp hm];exact⟨1,.inl rfl,rfl⟩
    have M:=s1.trans s2;have g2:(if decide ((k:Int)=1)=true then 1 else 2)=k:=by rcases hk with rfl | rfl<;>rfl
    ac_nf;refine⟨_,cy.of (M _ _ a0.1),_,rfl,_,cy.of (M _ _ b5.1),_,rfl,d.lp,I.lp,d.x.p,I.x.p,zr,zc,f3,f5,decide ((k:Int)=1),a2,rfl,M _ _ a0.2.2.1,M _ _ b5.2.2.1,zp,f4,⋯,λpc a1 g6 g5 L H3 a6 d1 s3=>h2 _ _ ?_,λH3 s3=>h2 _ _ ?_⟩
    ·clear h2
     rw[g2]at a1;ext;rw[q07 (by simp)];have a9:=M.trans s3;refine⟨_,cy.of (a9 _ _ a0.1),_,rfl,_,cy.of (a9 _ _ b5.1),_,rfl,ar nofun,λR Y=>⟨ar nofun,λO m=>⟨ar nofun,λtm J=>?_⟩⟩⟩;have a7:H O=none:=n9 (a9.trans (af Y)) m;have r0:kN p sg (k,⟨nm,B,d.x.nm,I.x.nm,[G],0⟩):=gd k _ _ G _ ⋯ b4.nm d2.nm a8 nofun nofun;have e4:aD H3 R (.tup [V.str (tx nm),V.int B,V.int (k:Int),V.str (tx d.x.nm),V.str (tx I.x.nm)]) R=some (.tup (gM (k,⟨nm,B,d.x.nm,I.x.nm,[G],0⟩))):=by rw[ae];rcases hk with rfl | rfl<;>rfl
     have s4:=af (o:=.tup [V.str (tx nm),V.int B,V.int (k:Int),V.str (tx d.x.nm),V.str (tx I.x.nm)]) Y;generalize aD H3 R (.tup [V.str (tx nm),V.int B,V.int (k:Int),V.str (tx d.x.nm),V.str (tx I.x.nm)])=H4 at s4 e4 m J ⊢;have s5:=af (o:=.lst [V.ref d.a,V.ref I.a]) m;have e5:aD H4 O (.lst [V.ref d.a,V.ref I.a]) O=some (.lst [V.ref d.a,V.ref I.a]):=ae;generalize aD H4 O (.lst [V.ref d.a,V.ref I.a])=H5 at s5 e5 J ⊢;have s6:=af (o:=.tup [V.ref L,V.int l]) J;have c2:=s5.trans s6;exact dW ((a9.trans s4).trans c2) (c2 _ _ e4) r0 rfl (ys:=[d,I]) (s6 _ _ e5) a7 (λy hy=>by rcases MQ.mp hy with rfl | hy;exact Z;rw[Mz.mp hy];exact a3) ae ((s4.trans c2) _ _ d1) (jD.put hk b3 b2 (a1 ⟨nm,B,d.x.nm,I.x.nm,[G],0⟩) ⟨λe=>by have:=g6 (by rw[e];rfl);omega,λe=>by have:=g5 (by rw[e];rfl);omega⟩) (Nx.pair (x:=d.x) (y:=I.x) hk rfl rfl (a1 _))
    ·clear h2
     ext;rw[q06 (by simp)];exact s2.trans s3
   ·rintro σ H2 ⟨s2,y2,y3,rfl⟩
    exact q H2 ts rs T (g.up (s1.trans s2)) (λy u _ _ e=>s2 _ _ (s1 _ _ e)) ⋯ ⋯ (λ_=>e8)
abbrev mj:Stmt:=eU 78
inductive pE(vs:List V)(H:Hp)(Q:VK)(_E:XK):Prop
 |mk (lc td lb:Addr) (cells:List Int) (p:aB) (sg:Ny) (dear side lim:Int) (_:vs=[.ref lc,.ref td]) (_:H lc=some (.lst (cells.map V.int))) (_:1<=cells.length) (_:cells.length<=14) (_:H td=some (.tup [.str (tx sg),.ref lb,.int dear,.int side,.int lim])) (_:H lb=some (.lst (av p))) (_:p.length=4) (_:(∀r∈p,dg r=true)) (_:dy sg=true) (_:1<=dear) (_:dear<=9) (_:dear<=lim) (_:side<=3) (_:∀tp lr ls ts rs zs H',H' tp=some (.tup [.ref lr,.ref ls])->GS H' p sg lim lr ls ts rs zs->rs.length<=14->zs≠[]->zs.length<=14->ax H H'->Q (.ref tp) H')
theorem yS:az ["_law_cells_here","_law_drawn","_law_rules","_law_stock","_law_cell_here"] ["_law_cells_here","_law_drawn"] (am mj):=by walk_at "c"
theorem yo{f:Addr}(F:c8 K "_law_grown" "_law_grown" mj f fd)(nb:NB mg)(zdc:↑df 3 "_law_step" ["_law_rules","_law_stock","_law_cell_here","_law_drawn"] rH):↑aV 4 f fd ["_law_cells_here","_law_drawn"] pE:=by
 have sc:=yS;walk_at "f"
 ·obtain⟨lc,td,lb,a,p,sg,S,B,C,rfl,M,b1,hc14,a1,a7,a5,a4,a2,b0,a9,a8,a3,q⟩:=h
  have hu:=hr.units;refine⟨_,(ad (q01 2 sc.nd (bh ac))
   (ad (q01 3 sc.nd (bh ac))
   (ad (aX PassesOwn.never rfl (aR (ak 0)) (q02 4 sc.nd)
   (ai (ba (aH zdc (hr.mono nofun) rfl aM (aa (ak 2) (aa (ak 3) (aa (ak 4) (aa (ak 1) ac))))))))
   (ai (aG (bH (aa (ak 2) (aa (ak 3) ac)))))))),?_⟩
  symm;refine⟨MZ _,λj l=>h1 _ _ ?_⟩;grind;refine⟨MZ _,λb d=>h1 _ _ ?_⟩;grind;have sA:=(af (o:=.lst []) l).trans (af (o:=.lst []) d);refine⟨⟨_,aI.of (sA _ _ M)⟩,?_⟩;have R:aD (aD H j (.lst [])) b (.lst []) j=some (.lst []):=af d _ _ ae;have O:aD (aD H j (.lst [])) b (.lst []) b=some (.lst []):=ae;have L:H b=none:=by
   by_cases e:b=j
   ·rw[e];exact l
   ·rwa [aq e]at d
  have a6:j≠b:=λe=>by rw[<- e,ae]at d;cases d
  generalize aD (aD H j (.lst [])) b (.lst [])=H1 at sA R O ⊢;refine bz (xs:=a.map V.int) (λi σ T=>ax H T/\i<=a.length/\(∃n m k,GS T p sg C j b n m k/\m.length<=i/\k.length<=i/\(1<=i->k≠[]))/\∃z,σ=[some (V.ref lc),some (V.ref td),some (V.ref j),some (V.ref b),z])
   ⟨sA,MZ _,⟨[],[],[],⟨⟨R,rfl,λi t r e=>by simp at e⟩,λr hr=>(nomatch hr),O,λz hz=>(nomatch hz),λz hz=>(nomatch hz),a6⟩,MY _,MY _,λh=>q0Q h nofun⟩,_,rfl⟩ (λi σ T _ h=>aI.of (h.1 _ _ M)) ?_ ?_
  ·rintro i x σ T hx ⟨v,_,⟨n,m,k,g,I,D,U⟩,z,rfl⟩
   rw[MA]at hx;obtain⟨c,hc,rfl⟩:=M5.mp hx;have IH:i<a.length:=(Mw.mp hc).1;ext;refine⟨j,b,td,lb,n,m,k,p,sg,c,S,B,C,rfl,g,v _ _ a1,v _ _ a7,a5,a4,a2,b0,a9,a8,a3,⋯,⋯,λH2 Z a0 Y g' sB l1 l2 J=>?_⟩;refine⟨λy u e=>sB y u (aA e l) (aA e L) (v y u e),IH,Z,a0,Y,g',⋯,⋯,λ_=>J ?_⟩
   by_cases h0:i=0
   ·exact .inr (Ni.mp ⋯)
   ·exact .inl (U ⋯)
  ·rintro σ T ⟨v,_,⟨n,m,k,g,I,D,U⟩,z,rfl⟩
   refine h1 _ _ ?_;ext;rw[My]at I D U;exact⟨ar nofun,λtp G=>q tp j b n m k _ ae (g.up (af G)) ⋯ (U b1) ⋯ (v.trans (af G))⟩
abbrev mr:Stmt:=eU 79
inductive pW(vs:List V)(H:Hp)(Q:VK)(_E:XK):Prop
 |mk (z m:Nat) (_:vs=[.int (z:Int),.int (m:Int)]) (_:z<=4) (_:m<=36) (_:Q (.int ((z ^ m:Nat):Int)) H)
theorem ya:az ["_law_number","_law_many","_law_total","_law_turn"] ["_law_number","_law_many"] (am mr):=by walk_at "c"
theorem xF{f:Addr}(F:c8 K "_law_power" "_law_power" mr f fd)(nb:NB mg):↑aV 1 f fd ["_law_number","_law_many"] pW:=by
 have sc:=ya;walk_at "f"
 ·obtain⟨z,m,rfl,z4,m36,q⟩:=h
  refine⟨_,(ad (q01 2 sc.nd aj)
   (ad (aX PassesOwn.never rfl (bP rfl nb.range (aa (ak 1) ac)) (q02 3 sc.nd)
   (ai (q01 2 sc.nd (aF (bC.m1 dz) (ak 2) (ak 0)))))
   (ai (aG (ak 2))))),?_⟩
  symm;refine h1 _ _ ?_;grind;rw[MJ];refine⟨⋯,⋯,?_⟩;refine bK (lo:=0) (n:=m) (λi σ a=>a=H/\∃x,σ=[some (V.int (z:Int)),some (V.int (m:Int)),some (V.int ((z ^ i:Nat):Int)),x]) ⟨rfl,_,rfl⟩ ?_ ?_
  ·rintro i σ a hi ⟨rfl,x,rfl⟩
   ext;refine⟨.inr ⟨⋯,⋯⟩,?_⟩;rw[Nat.pow_succ,Int.natCast_mul]
  ·rintro σ a ⟨rfl,x,rfl⟩
   refine h1 _ _ ?_;ext;exact q
abbrev ie:Stmt:=eU 80
inductive jQ(R:RC)(CG:Addr)(vs:List V)(H:Hp)(Q:VK)(_E:XK):Prop
 |mk (g dx:Addr) (sg st nm:Ny) (as:NC) (rs:Yaa) (nms:List (List Nat)) (r c:Nat) (_:vs=[.ref g,.str (tx nm),.int (r:Int),.int (c:Int)]) (_:cL R H CG dx g sg st as rs) (_:(bb (tx st) rs).map (·.1)=nms.map tx) (_:F5 rs nms sg r c) (_:nm∈nms) (_:300<sg.length ^ (r*c)) (_:∀H',ax H H'->Q (.bl true) H')
theorem qw:az ["_law_grammar_here","_law_name","_law_rows","_law_columns","_law_error","e"] ["_law_grammar_here","_law_name","_law_rows","_law_columns"] (am ie):=by walk_at "c"
theorem rh{f CN_ CM yac:Addr}{bmD:NA}{nD:String}(F:c8 K "_law_too_many" "_law_too_many" ie f fd)(nb:NB mg)
  (ya5:mg "QuiltError"=some (.ref yac)) (yan:mg "TooMany"=some (.ref CM))
  (ybI:t_ K yac bmD nD) (hbase:bmD.contains (.type "BaseException")=true) {bmM:NA} {nM:String} (ybQ:t_ K CM bmM nM) (und:BW K CM yac) (xt:W.XTy K CM)
  (k1:W.kitOne K (.ref CM) (.ref CM)=some true) (k2:W.kitOne K (.ref CM) (.type "ValueError")=some true)
  (yak:df P w K mg base (j6 P w) 10 "pictures_of" ["grammar","name","rows","columns"] (fM K R CG CN_ CM)):↑aV 11 f fd ["_law_grammar_here","_law_name","_law_rows","_law_columns"] (jQ R CG):=by
 have sc:=qw;walk_at "f"
 ·obtain⟨g,B,p,n,nm,C,x,b,r,c,rfl,y,e,z,j,hbig,q⟩:=h
  have hu:=hr.units;refine⟨_,(ad (q01 4 sc.nd mM)
   (ad (yP (i:=5) sc.nd rfl rfl (Ha yak (hr.mono nofun) rfl (aa (ak 0) (aa (ak 1) (aa (ak 2) (aa (ak 3) ac))))) rfl rfl rfl ya5 ybI hbase (λa=>(ai (q01 4 sc.nd (ak 5)))))
   (ai (aG (oH (aC gx rfl nb.isinstance bG (aa (ak 4) (aa (cH (v:=.ref _) rfl yan rfl) ac))) (uk (aC gx rfl nb.isinstance bG (aa (ak 4) (aa (ib (v:=.ty "ValueError") rfl nb.ValueError ri rfl) ac))))))))),?_⟩
  symm;refine h1 _ _ ?_;grind;refine⟨g,B,p,n,nm,C,x,b,r,c,rfl,y,e,z,λd=>q0Q j d,λ_ _ H1 u=>⟨CM,rfl,_,_,ybQ,und,λa k=>h1 _ _ ?_⟩,λ_ h=>q0Q h ⋯⟩;clear h1;have m:aD H1 a (xo a (.ref CM) none) a=some (xo a (.ref CM) none):=ae;have q:=λD s=>q D ((u.trans (af (o:=xo a (.ref CM) none) k)).trans s);generalize aD H1 a (xo a (.ref CM) none)=H2 at m q ⊢;have l:Ix H2 a CM:=.inl m;ext;refine .inr (.inl ⟨a,CM,_,true,rfl,rfl,l,xt,k1,true,rfl,?_⟩);rw[q07 rfl];exact .inr (.inl ⟨a,CM,V.ty "ValueError",true,rfl,rfl,l,xt,k2,q _ (ax.refl _)⟩)
theorem zt(l:Ny)(c:Nat):Eg (tx l) c=true↔c∈l:=by
 unfold Eg;rcases StrLaws.occ_head (tx l) ⟨#[c]⟩ 1 (MY _) with⟨d,j⟩ | ⟨i,r,d,g,_⟩
 ·rw[d]
  refine⟨λh=>by simp at h,λk=>?_⟩;obtain⟨a,b,e⟩:=List.append_of_mem k;exfalso;refine j a.length ⟨?_,?_⟩
  ·show a.length+1<=(tx l).length
   rw[aw,e];simp
  ·refine(PtM.sub_iff l [c] a.length (by rw[e];simp)).mpr ?_
   rw[e];simp
 ·rw[d]
  refine⟨λ_=>?_,λ_=>by simp⟩;have m:i+1<=l.length:=by have:=g.1;rw[aw]at this;exact this
  have:=(PtM.sub_iff l [c] i m).mp g.2;rw[this];simp
abbrev iV:Stmt:=eU 81
inductive kY(vs:List V)(H:Hp)(Q:VK)(_E:XK):Prop
 |mk (a:Addr) (p:aB) (sg:Ny) (r c:Nat) (_:vs=[.ref a,.str (tx sg),.int (r:Int),.int (c:Int)]) (_:H a=some (.lst (av p))) (_:rect p r c) (_:r<=6) (_:c<=6) (_:sg.length<=4) (_:(∀x∈p,∀s∈x,s∈sg)) (_:∀H',ax H H'->Q (.bl true) H')
theorem u3:az ["_law_found","_law_signs_here","_law_rows","_law_columns","_law_row"] ["_law_found","_law_signs_here","_law_rows","_law_columns"] (am iV):=by walk_at "c"
theorem uK{f:Addr}(F:c8 K "_law_picture" "_law_picture" iV f fd)(nb:NB mg)(yaP:mg "any"=none):↑aV 1 f fd ["_law_found","_law_signs_here","_law_rows","_law_columns"] kY:=by
 have sc:=u3;walk_at "f"
 ·obtain⟨a,p,d,r,c,rfl,m,C,hr6,hc6,hs4,u,q⟩:=h
  have hu:=hr.units;refine⟨_,(ad (bB (PW.pt (il (dE (cR (aC bI rfl nb.isinstance bG (aa (ak 0) (aa (ib (v:=.ty "list") rfl nb.list c7 rfl) ac))) λ_=>rfl)) (gX (aK rj (aC bo rfl nb.len bi (aa (ak 0) ac)) (ak 2) (aZ _)))))
   (ai (aG fO))
   aO)
   (ad (aX PassesOwn.never rfl (aR (ak 0)) (q02 4 sc.nd)
   (ai (bB (PW.pt (il (dE (cR (aC bI rfl nb.isinstance bG (aa (ak 4) (aa (ib (v:=.ty "str") rfl nb.str F8 rfl) ac))) λ_=>rfl)) (il (aK rj (aC aS rfl nb.len bi (aa (ak 4) ac)) (ak 3) (aZ _)) (gX (DF (aC (CA rfl) rfl yaP Gh (aa (bW ["_law_sign"] [1] rfl (bv.of (by kernel_rfl)) (by kernel_rfl) (Cf (ak 4))
    (λ_ _ _ _=>(au (i:=0) (by show(["_law_sign","_law_signs_here"]:List Str).Nodup;decide +kernel) rfl (Or.inl rfl))) (λ_ _ _ _=>bQ) (λ_ _ _ _=>(jv kX (ak 0) (ak 1) (by with_unfolding_all rfl)))) ac)) λ_=>rfl)))))
   (ai (aG fO))
   aO)))
   (ai (aG fO)))),?_⟩
  symm;refine⟨_,gK.lst m,true,iL K _,?_⟩;rw[q06 nofun];refine⟨_,aI.of m,?_⟩;rw[ao,C.1,q06 (λh=>h rfl)];refine h1 _ _ ?_;grind;refine⟨⟨_,aI.of m⟩,?_⟩;refine bz (xs:=av p) (λi σ j=>ax H j/\∃y,σ=[some (V.ref a),some (V.str (tx d)),some (V.int (r:Int)),some (V.int (c:Int)),y]) ⟨ax.refl _,_,rfl⟩ (λi σ j _ h=>aI.of (h.1 _ _ m)) ?_ ?_
  ·rintro i x σ j o ⟨n,y,rfl⟩
   have B:i<p.length:=by have:=(Mw.mp o).1;rwa [ao]at this
   rw[br B]at o;cases o;have k:=C.2 _ (MG B);have g:=u _ (MG B);ext;refine⟨_,gK.str _,true,iL K _,?_⟩;rw[q06 nofun];refine⟨by rw[aw,k];exact ar ⋯,?_⟩;rw[aw,k,q06 (λh=>h rfl)];refine zW (r:=p[i]) (f:=λ_=>some (V.bl false)) (λσ=>∃x,σ=[x,some (.str (tx d))]) ⟨_,rfl⟩ ⋯ ?_ ?_
   ·rintro s G σ H2 M1 M0 ⟨x,rfl⟩ b D k0
    ext;have z:(!(Builtin.Str.occurrences (tx d) ⟨#[s]⟩ 0 (tx d).length 1).isEmpty)=true:=(zt d s).mpr (g s G);rw[z];exact D _ _ _ rfl b ⟨_,rfl⟩
   ·intro H2 b l k
    refine⟨p[i].map λ_=>false,by rw[jt,MP];exact aI.of ae,?_⟩;have e:(p[i].map λ_=>false).any id=false:=by rw[List.any_map,List.any_eq_false];intro x _;exact M3
    rw[e];refine⟨false,rfl,?_⟩
    ·rw[q06 nofun]
     exact n.trans (b.trans (af k))
  ·rintro σ j ⟨n,y,rfl⟩
   refine h1 _ _ ?_;ext;exact q j n
abbrev ka:Stmt:=eU 82
inductive mV(vs:List V)(H:Hp)(Q:VK)(_E:XK):Prop
 |mk (l:Addr) (ts:NC) (fs:List (aB×Int)) (sg:Ny) (r c:Nat) (_:vs=[.ref l,.str (tx sg),.int (r:Int),.int (c:Int)]) (_:H l=some (.lst (ts.map V.ref))) (_:aL iC H ts fs) (_:fs.length<=300) (_:(∀y∈fs,rect y.1 r c/\(∀x∈y.1,∀s∈x,s∈sg)/\1<=y.2)) (_:(fs.map (·.1)).Pairwise (· < ·)) (_:0<r) (_:r<=6) (_:0<c) (_:c<=6) (_:sg.length<=4) (_:∀H',ax H H'->Q (.bl true) H')
theorem wT:az ["_law_found","_law_signs_here","_law_rows","_law_columns","_law_ahead","_law_pair"] ["_law_found","_law_signs_here","_law_rows","_law_columns"] (am ka):=by walk_at "c"
theorem wB{f:Addr}(F:c8 K "_law_listed" "_law_listed" ka f fd)(nb:NB mg)(zHb:↑df 1 "_law_whole" ["_law_x"] pC)(zjb:↑df 1 "_law_picture" ["_law_found","_law_signs_here","_law_rows","_law_columns"] kY):↑aV 2 f fd ["_law_found","_law_signs_here","_law_rows","_law_columns"] mV:=by
 have sc:=wT;walk_at "f"
 ·obtain⟨l,S,fs,T,r,c,rfl,L,hA,hn,Y,G,r0,r6,c0,c6,s4,q⟩:=h
  have hu:=hr.units;refine⟨_,(ad (bB (dE (cR (aC bI rfl nb.isinstance bG (aa (ak 0) (aa (ib (v:=.ty "list") rfl nb.list c7 rfl) ac))) λ_=>rfl))
   (ai (aG fO))
   aO)
   (ad (q01 4 sc.nd (bh ac))
   (ad (aX PassesOwn.never rfl (aR (ak 0)) (q02 5 sc.nd)
   (ad (bB (PW.pt (il (dE (cR (aC bI rfl nb.isinstance bG (aa (ak 5) (aa (ib (v:=.ty "tuple") rfl nb.tuple wm rfl) ac))) λ_=>rfl)) (il (aK rj (aC Bk rfl nb.len bi (aa (ak 5) ac)) aj (aZ _)) (il (dE (cR (aH zHb (hr.mono nofun) rfl aM (aa (aN aQ (ak 5) aj (λ_ _=>rfl)) ac)) λ_=>rfl)) (gX (aK (bC.m0 sH) (aN aQ (ak 5) aj (λ_ _=>rfl)) aj (aZ _)))))))
   (ai (aG fO))
   aO)
   (ad (bB (PW.pt (il (dE (cR (aH zjb (hr.mono nofun) rfl aM (aa (aN aQ (ak 5) aj (λ_ _=>rfl)) (aa (ak 1) (aa (ak 2) (aa (ak 3) ac))))) λ_=>rfl)) (gX (dE (aK (Gw hu) (ak 4) (aN aQ (ak 5) aj (λ_ _=>rfl)) (aZ _))))))
   (ai (aG fO))
   aO)
   (ai (q01 4 sc.nd (aN aQ (ak 5) aj (λ_ _=>rfl)))))))
   (ai (aG fO))))),?_⟩
  symm;refine⟨_,gK.lst L,true,iL K _,?_⟩;rw[q06 nofun];refine h1 _ _ ?_;grind;refine⟨MZ _,λU J=>h1 _ _ ?_⟩;clear h1;generalize za:aD H U _=H1;obtain⟨u,R⟩:=i4 J za;have M:aL iC H1 S fs:=hA.mono λt y _ _ h=>h.up u;symm;refine⟨⟨_,aI.of (u _ _ L)⟩,?_⟩;have C:∀(p q:aB),p<q->TS.lexS (p.map tx) (q.map tx)=true:=λp q h=>by
   rw[TS.lexS_eq];have e:∀p:aB,TS.ks (p.map tx)=p:=λp=>by
    show(p.map tx).map TS.cp=p;rw[MP];exact(q0K λx _=>cE x).trans (List.map_id _)
   rw[e,e];exact q09 h
  refine bz (xs:=S.map V.ref) (λi σ j=>ax H1 j/\∃(B:Addr) (k:NG) (y:Option V),σ=[some (V.ref l),some (V.str (tx T)),some (V.int (r:Int)),some (V.int (c:Int)),some (V.ref B),y]/\j B=some (.lst (k.map V.str))/\∀z,fs[i]?=some z->TS.lexS k (z.1.map tx)=true) ⟨ax.refl _,U,[],_,rfl,R,λz a=>?_⟩ (λi σ j _ h=>aI.of (h.1 _ _ (u _ _ L))) ?_ ?_
  ·have a:=(Y z (MB a)).1.1
   cases D:z.1 with
   |nil=>rw[D]at a;simp at a;omega
   |cons x p=>rfl
  ·rintro i x σ j Z ⟨m,B,k,y,rfl,O,I⟩
   rw[MA]at Z;obtain⟨t,ht,rfl⟩:=M5.mp Z;obtain⟨z,a,b,d,o⟩:=M.get ht;have d:=m _ _ d;have o:=m _ _ o;obtain⟨zr,zs,zc⟩:=Y z (MB a);ac_nf;refine⟨_,gK.tup d,true,iL K _,?_⟩;rw[q06 nofun];refine⟨_,cy.of d,?_⟩;rw[q06 (λh=>h rfl)];refine⟨_,cy.of d,_,rfl,z.2,rfl,true,rfl,?_⟩;rw[q06 nofun];refine⟨_,cy.of d,_,rfl,_,rfl,?_⟩;rw[q06 ⋯];refine h2 _ _ ?_;walk_at "oc";refine⟨_,cy.of d,_,rfl,b,z.1,T,r,c,rfl,o,zr,r6,c6,s4,zs,λH2 g=>⟨true,rfl,?_⟩⟩;rw[q06 nofun];refine⟨_,cy.of (g _ _ d),_,rfl,b,rfl,k,aI.of (g _ _ O),z.1.map tx,by rw[<- dY];exact aI.of (g _ _ o),?_⟩;rw[I z a,q06 nofun];refine h2 _ _ ?_;clear h2;ext;refine⟨_,cy.of (g _ _ d),_,rfl,m.trans g,b,rfl,z.1.map tx,by rw[<- dY];exact g _ _ o,λz' n=>?_⟩;refine C _ _ ?_;have h5:=List.pairwise_iff_getElem.mp G i (i+1) (by rw[My];exact(Mw.mp a).1) (by rw[My];exact(Mw.mp n).1) (M' i);rw[M6,M6,(Mw.mp a).2,(Mw.mp n).2]at h5;exact h5
  ·rintro σ j ⟨m,B,k,y,rfl,_⟩
   refine h1 _ _ ?_;ext;exact q j (u.trans m)
theorem E9{p:aB}{st:Ny}{rs:Yaa}(hst:st∈p)(hr:∀r∈rs,kN p sg r):∃nms:List (List Nat),(bb (tx st) rs).map (·.1)=nms.map tx/\(∀x∈rs,x.2.n∈nms)/\nms.length<=p.length/\∀n∈nms,n∈p:=by
 have o:∀z∈(bb (tx st) rs).map (·.1),z∈p.map tx:=λz a=>by
  rcases(oG _ _ _).mp a with e | ⟨q,j,e⟩
  ·rw[e];exact List.mem_map_of_mem hst
  ·unfold Ho at j
   obtain⟨r,d,rfl⟩:=Nj.mp j;have R:=hr r d;rcases e with e | e
   ·rw[e];exact List.mem_map_of_mem R.n
   ·obtain⟨y,b,rfl⟩:=Nj.mp e
    refine List.mem_map_of_mem ?_;obtain⟨k,v⟩:=r;have w:y=v.o1\/y=v.o2:=by
     rcases eC R.good.k4 with rfl | rfl | rfl | rfl
     ·exact q0Q b List.not_mem_nil
     ·simpa[cv]using b
     ·simpa[cv]using b
     ·exact .inl (by simpa[cv]using b)
    rcases w with rfl | rfl
    ·exact R.o1
    ·exact R.o2
 have g:=(jl (tx st) _ rs rfl).nd;have i:∀x∈rs,tx x.2.n∈(bb (tx st) rs).map (·.1):=λx c=>(oG _ _ _).mpr (.inr ⟨_,List.mem_map_of_mem c,.inl rfl⟩);have l:=ThM.nd_len g o;rw[My (as:=p)]at l;generalize(bb (tx st) rs).map (·.1)=ks at *;have u:∀z∈ks,tx z.cps.toList=z/\z.cps.toList∈p:=λz a=>by
  obtain⟨m,B,rfl⟩:=Nj.mp (o z a);rw[cE];exact⟨rfl,B⟩
 refine⟨ks.map λz=>z.cps.toList,?_,λx c=>Nj.mpr ⟨_,i x c,cE _⟩,by rw[My];exact l,λn g=>?_⟩
 ·rw[MP]
  exact((q0K (λz a=>(u z a).1)).trans (List.map_id' ks)).symm
 ·obtain⟨z,a,rfl⟩:=Nj.mp g
  exact(u z a).2
theorem sf.mn{nm:Ny}{ps:List aB}{fs:List (aB×Int)}(h:sf rs nm ps fs):∀y∈fs,Mn rs (bc y.1,nm) y.2:=by
 induction h with
 |nil=>intro y h;exact nomatch h
 |hit p v _ m ih=>
  intro y a;rcases MO.mp a with h | h
  ·exact ih y h
  ·rw[Mz.mp h];exact m
 |miss p _ _ ih=>exact ih
theorem sf.has{nm:Ny}{ps:List aB}{fs:List (aB×Int)}(h:sf rs nm ps fs):∀p∈ps,(∃v,(p,v)∈fs)\/∀v,¬ Dv rs (bc p,nm) v:=by
 induction h with
 |nil=>intro p h;exact nomatch h
 |hit q v _ m ih=>
  intro p a;rcases MO.mp a with h | h
  ·exact(ih p h).imp (λ⟨v,b⟩=>⟨v,MO.mpr (.inl b)⟩) id
  ·rw[Mz.mp h];exact .inl ⟨v,MO.mpr (.inr q0B)⟩
 |miss q _ m ih=>
  intro p a;rcases MO.mp a with h | h
  ·exact ih p h
  ·rw[Mz.mp h];exact .inr m
theorem DJ{α:Type}[LT α]:∀{s t a b:List α},s.length=t.length->s<t->s++a<t++b
 | [],[],_,_,_,h=>q0Q h (List.not_lt_nil _)
 | [],_::_,_,_,e,_=>nomatch e
 |_::_,[],_,_,e,_=>nomatch e
 |x::s,y::t,a,b,e,h=>by
  rcases List.cons_lt_cons_iff.mp h with h | ⟨h,h'⟩
  ·exact List.cons_lt_cons_iff.mpr (.inl h)
  ·exact List.cons_lt_cons_iff.mpr (.inr ⟨h,DJ (Nat.succ.inj e) h'⟩)
theorem zd{α:Type}[LT α]{a b:List α}(h:a<b):∀t:List α,t++a<t++b
 | []=>h
 |x::t=>List.cons_lt_cons_iff.mpr (.inr ⟨rfl,zd h t⟩)
theorem xy{α:Type}[LT α]{ls:List (List α)}{m:Nat}(hl:ls.Pairwise (· < ·))(hm:∀k∈ls,k.length=m):∀n,(qY (· ++ ·) ls [] n).Pairwise (· < ·)/\∀x∈qY (· ++ ·) ls [] n,x.length=n*m
 |0=>⟨List.pairwise_singleton _ _,λx hx=>by rw[Mz.mp hx,Nat.zero_mul];rfl⟩
 |n+1=>by
  obtain⟨h1,h2⟩:=xy hl hm n;refine⟨?_,λx hx=>?_⟩
  ·show((qY (· ++ ·) ls [] n).flatMap λc=>ls.map (c ++ ·)).Pairwise _
   refine List.pairwise_flatMap.mpr ⟨λc _=>?_,?_⟩
   ·rw[List.pairwise_map]
    exact hl.imp λh=>zd h c
   ·refine(List.Pairwise.and_mem.mp h1).imp ?_
    rintro s t ⟨hs,ht,h⟩ x hx y hy;obtain⟨_,_,rfl⟩:=Nj.mp hx;obtain⟨_,_,rfl⟩:=Nj.mp hy;exact DJ (by rw[h2 _ hs,h2 _ ht]) h
  ·obtain⟨c,hc,hx⟩:=List.mem_flatMap.mp (show x∈(qY (· ++ ·) ls [] n).flatMap λc=>ls.map (c ++ ·) from hx)
   obtain⟨k,hk,rfl⟩:=Nj.mp hx;rw[MX,h2 c hc,hm k hk,Nat.add_mul,Nat.one_mul]
theorem Cs{α:Type}[LT α]{a b:α}(h:a<b):[a]<[b]:=List.cons_lt_cons_iff.mpr (.inl h)
theorem Et{ss:Ny}(h:ss.Pairwise (· < ·))(r c:Nat):(jZ ss r c).Pairwise (· < ·):=by
 have h1:(iZ ss c).Pairwise (· < ·):=(xy (m:=1) (List.pairwise_map.mpr (h.imp λh=>Cs h)) (λk a=>by obtain⟨_,_,rfl⟩:=Nj.mp a;rfl) c).1;exact(xy (m:=1) (List.pairwise_map.mpr (h1.imp λh=>Cs h)) (λk a=>by obtain⟨_,_,rfl⟩:=Nj.mp a;rfl) r).1
theorem sf.sub{nm:Ny}{ps:List aB}{fs:List (aB×Int)}(h:sf rs nm ps fs):(fs.map (·.1)).Sublist ps:=by
 induction h with
 |nil=>exact List.Sublist.slnil
 |hit p v _ _ ih=>rw[MN];exact ih.append (List.Sublist.refl _)
 |miss p _ _ ih=>exact ih.trans (List.sublist_append_left _ _)
theorem BG{s:Nat}(hp:rect p r c)(hr:0<r)(hc:0<c)(r3:r<=3)(c3:c<=3)(hs:∀x∈p,∀y∈x,y=s):Gu p r c:=by
 have e:p=mapP (λk=>if k=0 then 0 else s) ((List.range r).map λ_=>(List.range c).map λ_=>1):=by
  refine List.ext_getElem (by rw[hp.1];simp[mapP]) λi a i2=>List.ext_getElem (by rw[hp.2 _ (MG a)];simp[mapP]) λj b j2=>?_;rw[hs _ (MG a) _ (MG b)];simp[mapP]
 rw[e];have:∀r,r<4->∀c,c<4->(kz ((List.range r).map λ_=>(List.range c).map λ_=>1) r c).length<64:=by decide +kernel
 exact oi rfl (this r ⋯ c ⋯)
theorem Ig(q:aB)(h:q∈jZ [1,2] 2 3):(kz q 2 3).length<64:=by
 have a:((jZ [1,2] 2 3).all λq=>decide ((kz q 2 3).length<64))=true:=by decide +kernel
 have:=Nk.mp a q h;exact of_decide_eq_true this
theorem HZ(q:aB)(h:q∈jZ [1,2] 3 2):(kz q 3 2).length<64:=by
 have a:((jZ [1,2] 3 2).all λq=>decide ((kz q 3 2).length<64))=true:=by decide +kernel
 have:=Nk.mp a q h;exact of_decide_eq_true this
theorem Ew{sg:Ny}(h2:sg.length<=2)(hp:rect p r c)(hr:0<r)(hc:0<c)(r3:r<=3)(c3:c<=3)(hl:sg.length ^ (r*c)<=300)(hs:∀x∈p,∀y∈x,y∈sg):Gu p r c:=by
 by_cases o:r*c<=5
 ·exact Ji hp hr hc o
 match sg,h2 with
 | [],_=>
  have v:0<p.length:=by rw[hp.1];exact hr
  have b:=MG v;have h1:0<(p[0]).length:=by rw[hp.2 _ b];exact hc
  exact nomatch hs _ b _ (MG h1)
 | [s],_=>exact BG hp hr hc r3 c3 λx b y d=>Mz.mp (hs x b y d)
 | [s,t],_=>
  have hl:2 ^ (r*c)<=300:=hl;have h8:r*c<=8:=Nat.le_of_lt_succ ((Nat.pow_lt_pow_iff_right (a:=2) nofun).mp (Nh hl (by decide:300<2 ^ 9)));have l:(r=2/\c=3)\/(r=3/\c=2):=by
   obtain rfl | rfl | rfl:r=1\/r=2\/r=3:=by omega
   ·omega
   ·omega
   ·omega
  have e:p=mapP (λk=>if k=0 then 0 else if k=1 then s else t) (mapP (λk=>if k=s then 1 else 2) p):=by
   refine List.ext_getElem (by simp[mapP]) λi n i2=>List.ext_getElem (by simp[mapP]) λj m j2=>?_;have:=hs _ (MG n) _ (MG m);simp only[MQ,List.not_mem_nil,or_false]at this;simp only[mapP,M6];rcases this with h | h<;>rw[h]
   ·simp
   ·by_cases e:t=s<;>simp[e]
  have g:mapP (λk=>if k=s then 1 else 2) p∈jZ [1,2] r c:=fH.mpr ⟨⟨by simp[mapP,hp.1],λx b=>by
   obtain⟨y,d,rfl⟩:=Nj.mp b;rw[My];exact hp.2 y d⟩,λx b y d=>by
   obtain⟨z,hz,rfl⟩:=Nj.mp b;obtain⟨u,hu,rfl⟩:=Nj.mp d
   split<;>simp⟩
  rw[e];generalize mapP (λk=>if k=s then 1 else 2) p=q at g;rcases l with⟨rfl,rfl⟩ | ⟨rfl,rfl⟩
  ·exact oi rfl (Ig q g)
  ·exact oi rfl (HZ q g)
theorem Dv.nm(h:Dv rs k v):∃r∈rs,k.2=r.2.n:=by
 cases h with
 |leaf hr=>exact⟨_,hr,rfl⟩
 |one hr=>exact⟨_,hr,rfl⟩
 |two hr=>exact⟨_,hr,rfl⟩
theorem GI(z:Str):tx z.cps.toList=z:=by cases z;simp[tx]
theorem Aa{c:Nat}(h:dg x=true)(hc:c∈x):i5 [c]=false:=by
 unfold dg at h;rw[q0O]at h;have h1:Eg yJ c=true:=Nk.mp (show x.all (Eg yJ)=true from h.2) c hc;rw[<- GI yJ]at h1;have h2:=(zt _ c).mp h1;have a:(yJ.cps.toList.all λc=>!i5 [c])=true:=by decide +kernel
 simpa using Nk.mp a c h2
theorem cL.put38{st:Ny}{p:aB}(g:cL R H C dx a sg st as rs)(hg:∀r∈rs,jP r)(hp:∃x∈p,∃c∈x,i5 [c]=true)(hb:H b=none\/H b=some (.lst (av p))):cL R (aD H b o) C dx a sg st as rs:=by
 rcases hb with hb | hb
 ·exact g.up (af hb)
 obtain⟨x,U,c,Y,d⟩:=hp;have J:V.str (tx x)∈av p:=List.mem_map_of_mem U;obtain⟨T,S,t,O,M,L,j,g5⟩:=g;have ne:∀{l:Addr} {vs:List V},H l=some (.lst vs)->V.str (tx x)∉vs->l≠b:=fun{l vs} h1 h2 z=>by
  rw[z,hb]at h1;have Z:=HO.lst.inj (q0S h1);rw[Z]at J;exact h2 J
 have q:∀{l:Addr} {u:HO},H l=some u->(∀vs,u≠.lst vs)->l≠b:=fun{l u} h1 h2 z=>by
  rw[z,hb]at h1;exact h2 _ (q0S h1).symm
 refine⟨T,S,t,by rw[aq (q O λvs e=>nomatch e)];exact O,by rw[aq (ne M λh=>by obtain⟨y,_,e⟩:=Nj.mp h;cases e)];exact M,⟨L.1,λi y r e1 B=>?_⟩,⟨by rw[aq (q j.dict λvs e=>nomatch e)];exact j.dict,λy I=>?_,j.apart⟩,g5⟩
 ·obtain⟨D,l,h1,h2⟩:=L.2 i y r e1 B
  refine⟨D,l,by rw[aq (q h1 λvs e=>nomatch e)];exact h1,?_⟩;rw[aq (ne h2 λh=>?_)]
  ·exact h2
  ·obtain⟨n,m,e⟩:=Nj.mp h
   have e:=cT (V.str.inj e);subst e;have G:=(hg r (MB B)).good;have w:dg n=true:=by
    obtain⟨k,v⟩:=r;have k4:=(hg _ (MB B)).k4;rcases eC k4 with h | h | h | h<;>(simp only at h;subst h)
    ·exact q0Q m List.not_mem_nil
    ·rcases MQ.mp m with h | h
     ·rw[h];exact G.o1
     ·rw[Mz.mp h];exact G.o2
    ·rcases MQ.mp m with h | h
     ·rw[h];exact G.o1
     ·rw[Mz.mp h];exact G.o2
    ·rw[Mz.mp m];exact G.o1
   rw[Aa w Y]at d;cases d
 ·rw[aq (ne (j.list y I) λh=>by
   unfold vC at h;obtain⟨z,_,e⟩:=Nj.mp h;cases e)]
  exact j.list y I
theorem sf.fn{nm:Ny}:∃F:List aB->List (aB×Int),∀{ps fs},sf rs nm ps fs->fs=F ps:=by
 classical
 refine⟨λps=>ps.filterMap λp=>if h:∃v,Mn rs (bc p,nm) v then some (p,h.choose) else none,fun{ps fs} h=>?_⟩
 induction h with
 |nil=>rfl
 |hit p v _ m ih=>
  have a:∃v,Mn rs (bc p,nm) v:=⟨v,m⟩;dsimp only at ih ⊢;rw[List.filterMap_append,<- ih];simp only[q0U,List.filterMap_nil];rw[dif_pos a];simp only[m.uniq a.choose_spec]
 |miss p _ m ih=>
  have a:¬ ∃v,Mn rs (bc p,nm) v:=λ⟨v,h⟩=>m v h.1;dsimp only at ih ⊢;rw[List.filterMap_append,<- ih];simp only[q0U,List.filterMap_nil];rw[dif_neg a,Na]
theorem zC{p:aB}{v:Int}:∀{ts:NC} {fs:List (aB×Int)},ts.length=fs.length->(fs.map (·.1)).Pairwise (· < ·)->(p,v)∈fs->(ts.zip fs).filterMap (λq=>if q.2.1=p then some (V.int q.2.2) else none)=[V.int v]
 | [],[],_,_,h=>nomatch h
 | [],_::_,e,_,_=>nomatch e
 |_::_,[],e,_,_=>nomatch e
 |t::ts,y::fs,e,hp,h=>by
  rw[M8,List.pairwise_cons]at hp;have e':ts.length=fs.length:=Nat.succ.inj e;rw[List.zip_cons_cons,q0U]
  by_cases hy:y.1=p
  ·rw[q07 hy]
   have nor:∀z∈fs,z.1≠p:=λz hz e=>by
    have:=hp.1 z.1 (List.mem_map_of_mem hz);rw[hy,e]at this;exact List.lt_irrefl _ this
   have hv:y=(p,v):=by
    rcases MQ.mp h with h | h
    ·exact h.symm
    ·exact q0Q rfl (nor _ h)
   have:(ts.zip fs).filterMap (λq=>if q.2.1=p then some (V.int q.2.2) else none)=[]:=by
    rw[List.filterMap_eq_nil_iff];intro q a;exact q06 (nor _ (List.of_mem_zip a).2)
   rw[this,hv]
  ·rw[q06 hy]
   refine zC e' hp.2 ?_;rcases MQ.mp h with h | h
   ·exact q0Q (by rw[<- h]) hy
   ·exact h
def Hx(x:aB×Int):Dt:=.tup [.lst (x.1.map λr=>.str (tx r)),.int x.2]
theorem zx:∀(p:aB),dM K H (p.map λr=>.str (tx r)) (av p)
 | []=>by unfold dM;rfl
 |r::p=>by
  show dM K H (.str (tx r)::p.map λr=>.str (tx r)) (V.str (tx r)::av p);unfold dM;exact⟨_,_,rfl,by unfold kt;rfl,zx p⟩
theorem p9:∀{ts:NC} {fs:List (aB×Int)},aL iC H ts fs->dM K H (fs.map Hx) (ts.map V.ref)
 | [],[],_=>by unfold dM;rfl
 | [],_::_,h=>nomatch h.1
 |_::_,[],h=>nomatch h.1
 |t::ts,y::fs,h=>by
  obtain⟨b,h1,h2⟩:=h.2 0 t y rfl rfl;have h3:aL iC H ts fs:=⟨Nat.succ.inj h.1,λi b y e1 e2=>h.2 (i+1) b y e1 e2⟩;rw[M8,M8];unfold dM;refine⟨_,_,rfl,?_,p9 h3⟩;unfold Hx kt;refine⟨t,_,rfl,cy.of h1,?_⟩;unfold dM;refine⟨_,_,rfl,?_,?_⟩
  ·unfold kt
   exact⟨b,_,rfl,aI.of h2,zx y.1⟩
  ·unfold dM
   exact⟨_,_,rfl,by unfold kt;rfl,by unfold dM;rfl⟩
theorem rY:∀fs:List (aB×Int),Dt.deps (fs.map Hx)<=2
 | []=>by unfold Dt.deps;simp
 |y::fs=>by
  have ih:=rY fs;have:∀p:aB,Dt.deps (p.map λr=>Dt.str (tx r))=0:=λp=>by
   induction p with
   |nil=>rfl
   |cons r p ih=>rw[M8];unfold Dt.deps;rw[ih];rfl
  have e1:(Hx y).dep<=2:=by
   have a:=this y.1;unfold Hx;simp only[Dt.dep,Dt.deps,a]
   decide
  rw[M8];simp only[Dt.deps];omega
abbrev sN:Stmt:=eU 83
inductive uM(K:W.Frag)(vs:List V)(H:Hp)(Q:VK)(_E:XK):Prop
 |mk (a:Addr) (ns:List Int) (_:vs=[.ref a]) (_:aI K H a (ns.map V.int)) (_:∀H',Q (.bl true) H')
theorem GG:az ["_law_script","_law_drawn","_law_rules","_law_stock","_law_tree","_law_name","_law_picture_here","_law_cost","_law_rows","_law_columns","_law_grammar_here","_law_found","_law_own","_law_begin","_law_one","_law_least","_law_kept"] ["_law_script"] (am sN):=by walk_at "c"
theorem GN{f CN_ CM:Addr}(F:c8 K "law" "law" sN f fd)(nb:NB mg)(zia:↑df 1 "_law_cell" ["_law_script","_law_k"] (lO K))(zIb:↑df 2 "_law_cells" ["_law_script","_law_begin","_law_most"] (pf K))(zJb:↑df 1 "_law_signs" ["_law_cell_here","_law_most"] pK)(zKb:↑df 1 "_law_names" ["_law_cell_here"] p7)
  (zLb:↑df 4 "_law_grown" ["_law_cells_here","_law_drawn"] pE) (zkb:↑df 7 "_law_grammar" ["_law_signs_here","_law_start","_law_rules"] (kQ R CG)) (zMb:↑df 1 "_law_power" ["_law_number","_law_many"] pW) (zTa:↑df 11 "_law_too_many" ["_law_grammar_here","_law_name","_law_rows","_law_columns"] (jQ R CG)) (yak:df P w K mg base (j6 P w) 10 "pictures_of" ["grammar","name","rows","columns"] (fM K R CG CN_ CM)) (yaA:df P w K mg base (j6 P w) 11 "least_cost" ["grammar","picture","name"] (jS K R CG CN_)) (zxb:↑df 2 "_law_listed" ["_law_found","_law_signs_here","_law_rows","_law_columns"] mV):↑aV 12 f fd ["_law_script"] (uM K):=by
 have sc:=GG;walk_at "f"
 ·obtain⟨a,ns,rfl,ha,q⟩:=h
  have hu:=hr.units;refine⟨_,(ad (q01 1 sc.nd (bH (aa (aH zJb (hr.mono nofun) rfl aM (aa (aH zia (hr.mono nofun) rfl aM (aa (ak 0) (ci ac))) (ci ac))) (aa (aH zKb (hr.mono nofun) rfl aM (aa (aH zia (hr.mono nofun) rfl aM (aa (ak 0) (ci ac))) ac)) (ci (ci (ci ac)))))))
   (ad (yw (aH zLb (hr.mono nofun) rfl aM (aa (aH zIb (hr.mono nofun) rfl aM (aa (ak 0) (ci (ci ac)))) (aa (ak 1) ac))) (fT (n:=2) rfl (aU (q02 2 sc.nd) (aU (q02 3 sc.nd) du))))
   (ad (yw (aN bF (ak 3) (aF (bC.m1 bO) (aH zia (hr.mono nofun) rfl aM (aa (ak 0) (ci ac))) (aC bo rfl nb.len bi (aa (ak 3) ac))) (λ_ _=>rfl)) (fT (n:=4) rfl (aU (q02 4 sc.nd) (aU (q02 5 sc.nd) (aU (au (i:=6) sc.nd rfl (Or.inr rfl)) (aU (q02 7 sc.nd) du))))))
   (ad (q01 8 sc.nd (aC bo rfl nb.len bi (aa (ak 6) ac)))
   (ad (q01 9 sc.nd (aC aS rfl nb.len bi (aa (aN bF (ak 6) aj (λ_ _=>rfl)) ac)))
   (ad (q01 10 sc.nd (aH zkb (hr.mono nofun) rfl aM (aa (aN aQ (ak 1) aj (λ_ _=>rfl)) (aa (aN bF (aN aQ (ak 1) aj (λ_ _=>rfl)) aj (λ_ _=>rfl)) (aa (ak 2) ac)))))
   (ad (bB (aK (bC.m0 mX) (aH zMb (hr.mono nofun) rfl aM (aa (aC aS rfl nb.len bi (aa (aN aQ (ak 1) aj (λ_ _=>rfl)) ac)) (aa (aF (bC.m1 dz) (ak 8) (ak 9)) ac))) aj (aZ _))
   (ai (aG (aH zTa (hr.mono nofun) rfl aM (aa (ak 10) (aa (ak 5) (aa (ak 8) (aa (ak 9) ac)))))))
   aO)
   (ad (q01 11 sc.nd (aH (CX:=j6 P w) yak (hr.mono nofun) rfl dt (aa (ak 10) (aa (ak 5) (aa (ak 8) (aa (ak 9) ac))))))
   (ad (bB (dE (cR (aH zxb (hr.mono nofun) rfl aM (aa (ak 11) (aa (aN aQ (ak 1) aj (λ_ _=>rfl)) (aa (ak 8) (aa (ak 9) ac))))) λ_=>rfl))
   (ai (aG fO))
   aO)
   (ad (fG (i:=12) ["_law_pair"] [6] sc.nd rfl (Or.inl rfl) rfl  rfl (bv.of (by kernel_rfl)) (by kernel_rfl) (aR (ak 11))
    (λ_ _ _ _=>(au (i:=0) (by show(["_law_pair","_law_picture_here"]:List Str).Nodup;decide +kernel) rfl (Or.inl rfl))) (λ_ _ _ _=>(nY (aK (Fo (K:=K) rfl hu) (aN (ju (K:=K) rfl) (ak 0) aj (λ_ _=>rfl)) (ak 1) (aZ _)))) (λ_ _ _ _=>(aN (ju (K:=K) rfl) (ak 0) aj (λ_ _=>rfl))))
   (ad (bB (PW.pt (il (aK rj (aC bo rfl nb.len bi (aa (ak 12) ac)) aj (aZ _)) (gX (aK (bC.m0 mX) (aN bF (ak 12) aj (λ_ _=>rfl)) (ak 7) (aZ _)))))
   (ai (aG fO))
   aO)
   (ad (q01 13 sc.nd (aF (bC.m1 bO) (aF (bC.m1 b7) (aH zia (hr.mono nofun) rfl aM (aa (ak 0) (ci ac))) (aC bo rfl nb.len bi (aa (ak 3) ac))) (aC bo rfl nb.len bi (aa (ak 11) ac))))
   (ad (aX PassesOwn.never rfl (aR (dh oh (ak 11) (cz (ak 13)) (cz (aF (bC.m0 bY) (ak 13) aj)))) (fT (n:=2) rfl (aU (q02 14 sc.nd) (aU (q02 15 sc.nd) du)))
   (ai (bB (aK rj (aH (CX:=j6 P w) yaA (hr.mono nofun) rfl dt (aa (ak 10) (aa (cq bR rfl nb.list c7 (aa (ak 14) ac)) (aa (ak 5) ac)))) (ak 15) (aZ _))
   (ai (aG fO))
   aO)))
   (ad (fG (i:=16) ["_law_pair"] [] sc.nd rfl (Or.inl rfl) rfl  rfl (bv.of (by kernel_rfl)) (by kernel_rfl) (aR (ak 11))
    (λ_ _ _ _=>(au (i:=0) (by show(["_law_pair"]:List Str).Nodup;decide +kernel) rfl (Or.inl rfl))) (λ_ _ _ _=>bQ) (λ_ _ _ _=>(bH (aa (cq (qO (K:=K) rfl) rfl nb.list c7 (aa (aN (ju (K:=K) rfl) (ak 0) aj (λ_ _=>rfl)) ac)) (aa (aN (ju (K:=K) rfl) (ak 0) aj (λ_ _=>rfl)) ac)))))
   (ad (ba (dU PySem.F.plainAttrs_list PySem.F.slot_list_append PySem.F.type_list_append cg (aN aQ (aN bF (ak 11) aj (λ_ _=>rfl)) aj (λ_ _=>rfl)) (iR ac)))
   (ad (ba (dU PySem.F.plainAttrs_list PySem.F.slot_list_append PySem.F.type_list_append cg (ak 11) (aa (bH (aa (bh ac) (ci ac))) ac)))
   (ai (aG (jv (Gr hu) (aH (CX:=j6 P w) yak (hr.mono nofun) rfl dt (aa (ak 10) (aa (ak 5) (aa (ak 8) (aa (ak 9) ac))))) (ak 16) (aZ _)))))))))))))))))))),?_⟩
  symm;refine⟨a,ns,0,rfl,ha,⋯,λc0=>⟨c0,2,rfl,nofun,nofun,λm H5 T hs2 g0 s5=>⟨a,ns,1,rfl,s5.seq ha,⋯,λc1=>⟨c1,rfl,λlb p H6 o6 hb m5 e5 s6=>⟨ar nofun,λtd f9=>h1 _ _ ?_⟩⟩⟩⟩⟩;clear h1;have s7:=af (o:=.tup [V.str (tx m),V.ref lb,V.int 4,V.int 3,V.int 60]) f9;have b5:aD H6 td (.tup [V.str (tx m),V.ref lb,V.int 4,V.int 3,V.int 60]) td=some (.tup [V.str (tx m),V.ref lb,V.int 4,V.int 3,V.int 60]):=ae;have b4:=s7 _ _ hb;have b1:=(s5.trans s6).trans s7;generalize aD H6 td (.tup [V.str (tx m),V.ref lb,V.int 4,V.int 3,V.int 60])=H7 at b1 b5 b4 ⊢;clear s7 s6 s5 hb o6 f9;symm;refine⟨a,ns,3,14,rfl,b1.seq ha,⋯,⋯,⋯,λlc cs H8 g5 g6 q3 i3 s8=>⟨lc,td,lb,cs,p,m,4,3,60,rfl,g6,q3,i3,s8 _ _ b5,s8 _ _ b4,m5,e5,T,nofun,nofun,nofun,nofun,λtp lr ls ts rs zs H9 f8 g hrl m2 hzl' s9=>⟨tp,rfl,_,cy.of f8,rfl,_,_,rfl,_,_,rfl,rfl,h1 _ _ ?_⟩⟩⟩;clear h1;have f4:=(b1.trans s8).trans s9;have a4:=s9 _ _ (s8 _ _ b5);have o5:=s9 _ _ (s8 _ _ b4);clear s9 s8 b1 f8 g5 g6 b5 b4;symm;have hzl:0<zs.length:=Nat.pos_of_ne_zero λe=>m2 (Ni.mp e);have hlm:(zs.map λz=>V.ref z.a).length=zs.length:=My _;refine⟨a,ns,2,rfl,f4.seq ha,⋯,λc4=>⟨_,aI.of g.st,_,rfl,⋯,_,aI.of g.st,?_⟩⟩;obtain⟨z,f6,b8⟩:∃z∈zs,je (zs.map λz=>V.ref z.a) (c4%((zs.map λz=>V.ref z.a).length:Nat))=some (V.ref z.a):=by
   obtain⟨v,hv,e⟩:=xB (xs:=zs.map λz=>V.ref z.a) (No c4 (show((zs.map λz=>V.ref z.a).length:Int)≠0 by omega)) (Np _ ⋯);obtain⟨z,hz,rfl⟩:=Nj.mp hv;exact⟨z,hz,e⟩
  have za:=g.at_ z f6;have zg:=g.good z f6;obtain⟨r,c,zp⟩:=zg.sd;have g2:=g.ro;have I:∀r∈rs,jP r:=λr hr=>(g.ro r hr).good;refine⟨_,b8,z.a,rfl,_,cy.of za.1,rfl,_,_,rfl,_,_,rfl,_,_,rfl,_,_,rfl,rfl,h1 _ _ ?_⟩;clear h1 b8;have r3:=zp.r3;have c3:=zp.c3;have r0:=zp.p6.r0;have a7:=zp.p6.c0;obtain⟨n7,o3⟩:=i_ zp.p6.rc r0;symm;refine⟨_,aI.of za.2.2.1,h1 _ _ ?_⟩;clear h1;rw[ao,zp.p6.rc.1];symm;refine⟨_,aI.of za.2.2.1,_,(show je _ ((0:Nat):Int)=_ from bJ (br n7)),_,rfl,by rw[aw];exact ar ⋯,h1 _ _ ?_⟩;clear h1;rw[aw,o3];have hsl:=j7 T;have g3:p[0]?=some (p[0]'⋯):=Mv ⋯;have O:p[0]'⋯∈p:=MG _;generalize p[0]'⋯=st at g3 O;have q5:je (av p) 0=some (V.str (tx st)):=(show je _ ((0:Nat):Int)=_ from bJ (by unfold av;rw[MA,g3];rfl));have hn0:=jm (e5 _ O);obtain⟨J,b2,e7,hnl2,hnp⟩:=E9 O g2;symm;refine⟨_,cy.of a4,_,rfl,_,cy.of a4,_,rfl,lb,rfl,_,aI.of o5,_,q5,lr,m,st,ts,rs,rfl,g.rows,I,⋯,⋯,⋯,AN T O e5 ⋯ ⋯ g2,λgr gd ga HA gA sA=>h1 _ _ ?_⟩;clear h1;have c6:=sA _ _ a4;have hE:F5 rs J m r c:=⟨r0,⋯,a7,⋯,⋯,⋯,Em T,I,e7,⋯,⋯,λe0 p hp hs=>Ew ⋯ hp r0 a7 r3 c3 e0 hs⟩;symm;have rc9:r*c<=9:=Nat.mul_le_mul r3 c3;refine⟨_,cy.of c6,_,rfl,tx m,rfl,by rw[aw];exact ar ⋯,.inl ⟨⋯,⋯⟩,m.length,r*c,by rw[aw];rfl,⋯,⋯,_,rfl,?_⟩;have b3:z.x.nm∈J:=by
   obtain⟨r,hr,e⟩:=zg.dv.nm;rw[show z.x.nm=r.2.n from e];exact e7 r hr
  by_cases S:300<m.length ^ (r*c)
  ·rw[q07 (by exact_mod_cast S)]
   exact⟨gr,gd,m,st,z.x.nm,ga,rs,J,r,c,rfl,gA,b2,hE,b3,S,λH' _=>q H'⟩
  rw[q06 (by intro h;exact S (by exact_mod_cast h))];have e0:m.length ^ (r*c)<=300:=Nat.le_of_not_lt S;refine h1 _ _ ?_;grind;refine⟨gr,gd,m,st,z.x.nm,ga,rs,J,r,c,rfl,gA,b2,hE,λa2=>q0Q b3 a2,λ_ hb=>q0Q hb ⋯,λ_ _ lf HB d fs ss n6 a0 f0 hF i0 j1 sB=>h1 _ _ ?_⟩;grind;have m4:ss.Pairwise (· < ·):=by
   have hn:ss.Nodup:=a0.nodup_iff.mpr g0;exact(f0.and hn).imp λh=>Nat.lt_of_le_of_ne h.1 h.2
  have c2:(fs.map (·.1)).Pairwise (· < ·):=(Et m4 r c).sublist hF.sub;have l7:∀{k v},Dv rs k v->1<=v:=fun{k v} h=>by
   induction h with
   |leaf hr=>exact(I _ hr).good.c1
   |one hr _ _ _ ih=>have:=(I _ hr).good.c1;omega
   |two hr _ _ _ _ i1 i2=>have:=(I _ hr).good.c1;omega
  have d2:∀y∈fs,rect y.1 r c/\(∀x∈y.1,∀s∈x,s∈m)/\1<=y.2:=λy hy=>by
   obtain⟨h1,h2⟩:=fH.mp (hF.mem y hy);exact⟨h1,λx G s hs=>a0.mem_iff.mp (h2 x G s hs),l7 (hF.mn y hy).1⟩
  have o1:fs.length<=300:=by
   have:=hF.len;rw[wD,a0.length_eq,Nat.mul_comm]at this;omega
  refine⟨_,cy.of (sB _ _ c6),_,rfl,lf,d,fs,m,r,c,rfl,i0,j1,o1,d2,c2,r0,⋯,a7,⋯,⋯,λHC sC=>⟨true,rfl,?_⟩⟩;rw[q06 nofun];refine h1 _ _ ?_;clear h1;have k4:z.x.p∈jZ ss r c:=fH.mpr ⟨zp.p6.rc,λx G s hs=>a0.mem_iff.mpr (zp.sn x G s hs)⟩;obtain⟨v0,d6⟩:∃v,(z.x.p,v)∈fs:=by
   rcases hF.has _ k4 with h | h
   ·exact h
   ·exact q0Q zg.dv (h _)
  have hv0le:v0<=z.x.c:=(hF.mn _ d6).2 _ zg.dv;have a6:=sC _ _ i0;have Z:aL iC HC d fs:=j1.mono λt y _ _ h=>h.up sC;have f3:=sB.trans sC;have k3:=za.2.2.1 |> λh=>f3 _ _ (sA _ _ h)
  symm;refine⟨⟨_,aI.of a6⟩,?_⟩;refine d0 (as:=d.zip fs) (emb:=λq=>V.ref q.1) (f:=λq=>if q.2.1=z.x.p then some (V.int q.2.2) else none) (λσ=>∃x,σ=[x,some (V.ref z.lp)]) ⟨_,rfl⟩ (λH' s=>by rw[<- Z.zip];exact aI.of (s _ _ a6)) (by rw[q0N];omega) ?_ ?_
  ·rintro i q hq σ H2 M1 M0 ⟨x,rfl⟩ B k1 k0
   obtain⟨d7,b,L,h4⟩:=Z.at hq;ext;refine⟨_,cy.of (B _ _ L),_,rfl,b,z.lp,q.2.1.map tx,z.x.p.map tx,rfl,rfl,by rw[<- dY];exact aI.of (B _ _ h4),by rw[<- dY];exact aI.of (B _ _ k3),_,rfl,?_⟩
   by_cases e:q.2.1=z.x.p
   ·rw[q07 (q09 (by rw[e]))]
    exact⟨_,cy.of (B _ _ L),_,rfl,k1 _ _ _ (q07 e) B ⟨_,rfl⟩⟩
   ·have e2:¬ q.2.1.map tx=z.x.p.map tx:=λh=>e (by
     have h:=q0R (List.map λs:Str=>s.cps.toList) h;rw[MP,MP]at h;have e3:∀p:aB,List.map ((λs:Str=>s.cps.toList)∘tx) p=p:=λp=>(q0K λx _=>cE x).trans (List.map_id _)
     rwa [e3,e3]at h)
    rw[q06 (by rw[q08 e2];decide)];exact k0 _ _ (q06 e) B ⟨_,rfl⟩
  ·intro H2 B lo g4
   rw[zC Z.1 c2 d6];refine h1 _ _ ?_;clear h1;generalize zo:aD H2 lo _=HD;obtain⟨f1,h8⟩:=i4 g4 zo;have sD:=B.trans f1;clear zo f1 B g4;symm;refine⟨_,aI.of h8,?_⟩;rw[q06 (λh=>h rfl)];refine⟨_,aI.of h8,_,rfl,_,rfl,?_⟩;rw[q06 ⋯];refine h1 _ _ ?_;clear h1;have l3:=sD;have M:=f3.trans sD;have l5:=(f4.trans sA).trans M;have a5:=sD _ _ a6;have hfs0:0<fs.length:=List.length_pos_of_mem d6;symm;refine⟨a,ns,2,rfl,l5.seq ha,⋯,λc5=>⟨_,aI.of (M _ _ (sA _ _ g.st)),c5,rfl,by rw[My];omega,by rw[My];omega,_,aI.of a5,by rw[My,Z.1];omega,h1 _ _ ?_⟩⟩;clear h1;rw[My,My,Z.1];obtain⟨bg,o4⟩:∃n:Nat,c5/(zs.length:Int)%(fs.length:Int)=(n:Int):=⟨_,(Nq (No _ ⋯)).symm⟩;rw[o4];have q4:aL iC HD d fs:=Z.mono λt y _ _ h=>h.up l3;symm;refine⟨_,aI.of a5,λlq n5=>?_⟩;generalize g7:jW (d.map V.ref) (some (bg:Int)) (some ((bg:Int)+5))=cs;have o2:∀x∈cs,∃t∈d,x=V.ref t:=λx G=>by
    rw[<- g7]at G;unfold jW at G;obtain⟨t,ht,e⟩:=Nj.mp (q0I (q0H G));exact⟨t,ht,e.symm⟩
   generalize zq:aD HD lq _=HF;obtain⟨sF,h7⟩:=i4 n5 zq;have gF:=gA.up (M.trans sF);have j2:aL iC HF d fs:=q4.mono λt y _ _ h=>h.up sF;refine⟨⟨_,aI.of h7⟩,?_⟩;refine bz (xs:=cs) (λi σ H'=>ax HF H'/\∃d4 d3,σ=[some (V.ref a),some (V.ref td),some (V.ref lr),some (V.ref ls),some z.v,some (V.str (tx z.x.nm)),some (V.ref z.lp),some (V.int z.x.c),some (V.int (r:Int)),some (V.int (c:Int)),some (V.ref gr),some (V.ref lf),some (V.ref lo),some (V.int (bg:Int)),d4,d3,none]) ⟨ax.refl _,_,_,rfl⟩ (λi σ H' _ h=>aI.of (h.1 _ _ h7)) ?_ ?_
   ·rintro i x σ H' G ⟨B,d4,d3,rfl⟩
    obtain⟨t,ht,rfl⟩:=o2 x (MB G);obtain⟨j,hj⟩:=List.mem_iff_getElem?.mp ht;obtain⟨y,hy,b,L,h4⟩:=j2.get hj;have f7:=MB hy;obtain⟨yr,e9,_⟩:=d2 y f7;have L:=B _ _ L;have h4:=B _ _ h4;ext;refine⟨_,cy.of L,rfl,_,_,rfl,_,_,rfl,rfl,b,rfl,_,.inl (aI.of h4),λl hl=>?_⟩;generalize zl:aD H' l _=H2;obtain⟨s2,el⟩:=i4 hl zl;have Ep:kZ rs J y.1 r c:=⟨yr,r0,a7,⋯,⋯,λx G o7=>Em T 47 (e9 x G 47 o7) rfl,I,e7,⋯,⋯,hE.few e0 _ yr e9⟩;refine⟨gr,gd,l,m,st,ga,rs,J,y.1,r,c,_,rfl,gF.up (B.trans s2),b2,Ep,el,.inr ⟨z.x.nm,rfl,λ_ H3 tb hB s3=>?_,λa2=>q0Q b3 a2⟩⟩;have hM:=hF.mn y f7;have hn:aP tb (bc y.1,z.x.nm)=some y.2:=by
     obtain⟨v',l',h'⟩:=hB.min Ep (bf.self Ep.hp Ep.r0 Ep.c0) hM.1;rw[h',Int.le_antisymm l' (hM.2 _ (hB.key _ _ h').2.2.1)]
    rw[hn];refine⟨rfl,?_⟩;rw[q06 (λh=>h rfl)];exact B.trans (s2.trans s3)
   ·rintro σ H' ⟨B,d4,d3,rfl⟩
    refine h1 _ _ ?_;clear h1;have D:=B _ _ (sF _ _ a5);have Y:aL iC H' d fs:=j2.mono λt y _ _ h=>h.up B;have l4:=M.trans (sF.trans B);symm;refine⟨⟨_,aI.of D⟩,?_⟩;refine fz (λH t (x:aB×Int)=>∃cc,H t=some (.tup [.ref cc,.int x.2])/\jB H cc x.1/\H' cc=none) (λ⟨cc,h1,h2,L⟩ s=>⟨cc,s _ _ h1,s _ _ h2,L⟩) (as:=d.zip fs) (emb:=λq=>V.ref q.1) (ys:=fs) (by rw[q0N,Y.1,Nat.min_self]) (λσ=>∃x,σ=[x]) ⟨_,rfl⟩ (λH2 s=>by rw[<- Y.zip];exact aI.of (s _ _ D)) (by rw[q0N];omega) ?_ ?_
    ·rintro i q y hq hy σ H2 M1 M0 ⟨x,rfl⟩ a1 k1
     obtain⟨d7,b,L,h4⟩:=Y.at hq;rw[hy]at d7;cases d7;ext;refine⟨_,cy.of (a1 _ _ L),_,rfl,b,rfl,_,.inl (aI.of (a1 _ _ h4)),λl hl=>⟨_,cy.of (af hl _ _ (a1 _ _ L)),_,rfl,ar nofun,λpt e1=>?_⟩⟩;exact k1 pt _ _ ⟨l,ae,(af e1) _ _ ae,a1.free hl⟩ (a1.trans ((af hl).trans (af e1))) ((af hl).trans (af e1)) ⟨_,rfl⟩
    ·intro ks HK sK n8 lk a3
     refine h1 _ _ ?_;clear h1;generalize zk:aD HK lk _=HL;obtain⟨d5,p4⟩:=i4 a3 zk;have sL:=sK.trans d5;obtain⟨t0,e6⟩:∃t,d[0]?=some t:=⟨d[0]'(by have:=Y.1;omega),Mv _⟩;obtain⟨y0,m3,b0,e3,e4⟩:=Y.get e6;have q2:=sL _ _ e3;have U:HL b0=some (.lst (av y0.1)):=sL _ _ e4;have k6:je (d.map V.ref) 0=some (V.ref t0):=(show je _ ((0:Nat):Int)=_ from bJ (by rw[MA,e6];rfl));symm;have l0:=MB m3;obtain⟨d1,e8,_⟩:=d2 y0 l0;have C:=sL _ _ D;have a8:0<y0.1.length:=by rw[d1.1];exact r0
     have f5:lf≠b0:=λe=>by
      rw[e,U]at C;have h5:=HO.lst.inj (q0S C);have h6:(av y0.1)[0]?=(d.map V.ref)[0]?:=by rw[h5]
      rw[br a8,MA,e6]at h6;cases h6
     refine⟨_,aI.of C,_,k6,t0,rfl,_,cy.of q2,_,rfl,.inl ⟨rfl,_,aI.of U⟩,b0,rfl,_,U,by rw[ao,d1.1];exact aY ⋯,h1 _ _ ?_⟩;clear h1;generalize hO:av y0.1++[V.str (Str.ofString "a")]=vO;generalize zM:aD HL b0 (.lst vO)=HM;have c9:HM lf=some (.lst (d.map V.ref)):=by rw[<- zM,aq f5];exact C
     have eM:∀{x u},x≠b0->HL x=some u->HM x=some u:=fun{x u} h1 h2=>by rw[<- zM,aq h1];exact h2
     symm;refine⟨.inl ⟨rfl,_,aI.of c9⟩,MZ _,λp1 n4=>⟨ar nofun,λp2 n3=>?_⟩⟩;have a9:=(af (o:=.lst []) n4).trans (af (o:=.tup [V.ref p1,V.int 0]) n3);generalize aD (aD HM p1 (.lst [])) p2 (.tup [V.ref p1,V.int 0])=HN at a9 ⊢;refine⟨_,a9 _ _ c9,by rw[My,Y.1];exact aY ⋯,h1 _ _ ?_⟩;clear h1;generalize zP:aD HN lf _=HP;have eP:∀{x u},x≠b0->x≠lf->HL x=some u->HP x=some u:=fun{x u} h1 h2 L=>by rw[<- zP,aq h2];exact a9 _ _ (eM h1 L)
     have q1:HP b0=some (.lst vO):=by rw[<- zP,aq f5.symm];exact a9 _ _ (by rw[<- zM];exact ae)
     have f2:=l4.trans sL;have g1:cL R (aD HA b0 (.lst vO)) CG gd gr m st ga rs:=gA.put38 I ⟨_,MG a8,_,MG (show 0<(y0.1[0]).length by rw[d1.2 _ (MG a8)];exact a7),tP T (e8 _ (MG a8) _ (MG _))⟩ (by
      cases hb:HA b0 with
      |none=>exact .inl rfl
      |some o=>right;rw[f2 _ _ hb]at U;exact U)
     have gP:cL R HP CG gd gr m st ga rs:=g1.up λx u h=>by
      by_cases G:x=b0
      ·rw[G,ae]at h;rw[G];exact h▸q1
      ·rw[aq G]at h
       exact eP G (λe=>by rw[e,n6]at h;cases h) (f2 _ _ h)
     have nk:∀{x},H' x=none->x≠b0/\x≠lf:=fun{x} h=>⟨λe=>(by rw[e,show H' b0=_ from e4]at h;cases h),λe=>(by rw[e,D]at h;cases h)⟩;have kP:aL iC HP ks fs:=n8.mono λt y _ _ ⟨cc,h1,h2,L⟩=>by
      have h1:=d5 _ _ h1;have h2:=d5 _ _ h2;obtain⟨n1,n2⟩:=nk L;refine⟨cc,eP (λe=>by rw[e,U]at h1;cases h1) (λe=>by rw[e,C]at h1;cases h1) h1,eP n1 n2 h2⟩
     have h9:HP lk=some (.lst (ks.map V.ref)):=eP (λe=>by rw[e,show HK b0=_ from sK _ _ e4]at a3;cases a3) (λe=>by rw[e,sK _ _ D]at a3;cases a3) p4;ext;refine⟨gr,gd,m,st,z.x.nm,ga,rs,J,r,c,rfl,gP,b2,hE,λa2=>q0Q b3 a2,λ_ hb=>q0Q hb ⋯,λ_ _ l2 HQ ts2 p0 l1 hl2 k7 k5 h0 p5 k2 sQ=>?_⟩;have p3:l1=ss:=List.Perm.eq_of_pairwise (le:=(·<=·)) (λa b _ _ h1 h2=>Nat.le_antisymm h1 h2) k5 f0 (k7.trans a0.symm);rw[p3]at h0;obtain⟨FF,g9⟩:=sf.fn (rs:=rs) (nm:=z.x.nm);have q0:p0=fs:=by rw[g9 h0,g9 hF]
     rw[q0]at k2;exact .inl ⟨fs.map Hx,M9 (rY fs) nofun,.inl ⟨(by unfold kt;exact⟨l2,_,rfl,aI.of p5,p9 k2⟩),(by unfold kt;exact⟨lk,_,rfl,aI.of (sQ _ _ h9),p9 (kP.mono λt y _ _ h=>h.up sQ)⟩)⟩,q _⟩
end
theorem bdc{n:Nat}{P:List Value->Prop}(h:∀a us,us.length=n->P (a::us)):∀us:List Value,us.length=n+1->P us:=by
 intro us e;cases us with|nil=>cases e|cons a us=>exact h a us (Nat.succ.inj e)
theorem bd0{P:List Value->Prop}(h:P []):∀us:List Value,us.length=0->P us:=by
 intro us e;cases us with|nil=>exact h|cons a us=>cases e
theorem bd1{P:List Value->Prop}(h:∀a,P [a]):∀us:List Value,us.length=1->P us:=bdc λa=>bd0 (P:=λus=>P (a::us)) (h a)
theorem bd2{P:List Value->Prop}(h:∀a b,P [a,b]):∀us:List Value,us.length=2->P us:=bdc λa=>bd1 (P:=λus=>P (a::us)) (h a)
theorem bd3{P:List Value->Prop}(h:∀a b c,P [a,b,c]):∀us:List Value,us.length=3->P us:=bdc λa=>bd2 (P:=λus=>P (a::us)) (h a)
theorem bd4{P:List Value->Prop}(h:∀a b c d,P [a,b,c,d]):∀us:List Value,us.length=4->P us:=bdc λa=>bd3 (P:=λus=>P (a::us)) (h a)
theorem bd5{P:List Value->Prop}(h:∀a b c d e,P [a,b,c,d,e]):∀us:List Value,us.length=5->P us:=bdc λa=>bd4 (P:=λus=>P (a::us)) (h a)
theorem bd6{P:List Value->Prop}(h:∀a b c d e f,P [a,b,c,d,e,f]):∀us:List Value,us.length=6->P us:=bdc λa=>bd5 (P:=λus=>P (a::us)) (h a)
def FK(K:W.Frag)(x:Str)(st:Stmt)(f:Addr):Prop:=W.nsIn K mainGlobals x=some (some (.ref f))/\∃oc od osl kV doc pm an cdv ct,K.lookup f=some ⟨oc,od,.func (W.fnOf x x (cZ st) (cI st) (am st) .none kV doc pm an cdv ct),osl⟩/\W.codeIn K cdv x=true/\W.keepIn K (.ref f)=true
theorem fk_mk{K:W.Frag}{st:Stmt}{f:Addr}{oc:Value}{od an:NK}{osl:Array (Option Value)}{kV doc pm cdv ct:Value}(a:W.nsIn K mainGlobals x=some (some (.ref f)))(l:K.lookup f=some ⟨oc,od,.func (W.fnOf x x (cZ st) (cI st) (am st) .none kV doc pm an cdv ct),osl⟩)(c:W.codeIn K cdv x=true)(k:W.keepIn K (.ref f)=true):FK K x st f:=⟨a,oc,od,osl,kV,doc,pm,an,cdv,ct,l,c,k⟩
def MK(K:W.Frag)(x q:Str)(st:Stmt)(f:Addr):Prop:=∃oc od osl kV doc pm an cdv ct,K.lookup f=some ⟨oc,od,.func (W.fnOf x q (cZ st) (cI st) (am st) .none kV doc pm an cdv ct),osl⟩/\W.codeIn K cdv q=true/\W.keepIn K (.ref f)=true/\W.isFn K (.ref f)=true
theorem mk_mk{K:W.Frag}{st:Stmt}{f:Addr}{oc:Value}{od an:NK}{osl:Array (Option Value)}{kV doc pm cdv ct:Value}(l:K.lookup f=some ⟨oc,od,.func (W.fnOf x q (cZ st) (cI st) (am st) .none kV doc pm an cdv ct),osl⟩)(c:W.codeIn K cdv q=true)(k:W.keepIn K (.ref f)=true)(i:W.isFn K (.ref f)=true):MK K x q st f:=⟨oc,od,osl,kV,doc,pm,an,cdv,ct,l,c,k,i⟩
theorem FK.cal{K:W.Frag}{st:Stmt}{f:Addr}{mg:ND}{CX:iI}{ps:NG}{sp:Sp}(P:NF)(w:NJ)(base:Heap)(q:FK K x st f)(X:K.In h)(G:h.Ns mainGlobals mg)
  (ok:∀fd,c8 K x x st f fd->mg x=some (.ref f)->W.keepIn K (.ref f)=true->dP K fd ps []->aV P w K mg base CX k f fd ps sp)
  (hb:∀(kV doc pm:Value) (an:NK) (cdv ct:Value) (us:NA),us.length=ps.length->bindArgs (W.fnOf x x (cZ st) (cI st) (am st) .none kV doc pm an cdv ct) ⟨us,[]⟩=pure (ps.zip us):=by first|exact λ_ _ _ _ _ _=>bd1 λ_=>rfl|exact λ_ _ _ _ _ _=>bd2 λ_ _=>rfl|exact λ_ _ _ _ _ _=>bd3 λ_ _ _=>rfl|exact λ_ _ _ _ _ _=>bd4 λ_ _ _ _=>rfl):df P w K mg base CX k x ps sp:=by
 obtain⟨a,oc,od,osl,kV,doc,pm,an,cdv,ct,l,c,d⟩:=q;have F:=cQ l c d;have b:=F.binds hb;exact⟨_,_,ok _ F (W.mg_of X G a) d b,W.mg_of X G a,d,b⟩
def IM(K:W.Frag)(x:Str)(st:Stmt)(f:Addr):Prop:=W.nsIn K mainGlobals x=some (some (.ref f))/\∃oc od osl kV doc pm an cdv ct dT o n,K.lookup f=some ⟨oc,od,.func (W.fnOf x x (cZ st) (cI st) (am st) (.ref dT) kV doc pm an cdv ct),osl⟩/\W.codeIn K cdv x=true/\W.keepIn K (.ref f)=true/\K.lookup dT=some o/\o.data=.seq #[.none] n
theorem fkd_mk{K:W.Frag}{st:Stmt}{f dT:Addr}{oc:Value}{od an:NK}{osl:Array (Option Value)}{kV doc pm cdv ct:Value}{o:Obj}{n:Nat}(a:W.nsIn K mainGlobals x=some (some (.ref f)))(l:K.lookup f=some ⟨oc,od,.func (W.fnOf x x (cZ st) (cI st) (am st) (.ref dT) kV doc pm an cdv ct),osl⟩)(c:W.codeIn K cdv x=true)(k:W.keepIn K (.ref f)=true)(t:K.lookup dT=some o)(d:o.data=.seq #[.none] n):IM K x st f:=⟨a,oc,od,osl,kV,doc,pm,an,cdv,ct,dT,o,n,l,c,k,t,d⟩
theorem IM.cal{K:W.Frag}{st:Stmt}{f:Addr}{base:Heap}{mg:ND}{CX:iI}{ps:NG}{sp:Sp}(q:IM K x st f)(X:K.In h)(G:h.Ns mainGlobals mg)
  (ok:∀fd dT,Fg K x x st f fd dT->aV P w K mg base CX k f fd ps sp)
  (hb:∀(dT:Addr) (kV doc pm:Value) (an:NK) (cdv ct:Value) (us:NA),us.length=ps.length->∃g,bindArgs (W.fnOf x x (cZ st) (cI st) (am st) (.ref dT) kV doc pm an cdv ct) ⟨us,[]⟩=seqItems? (.ref dT) >>= g/\g (some #[.none])=pure (ps.zip us)):df P w K mg base CX k x ps sp:=by
 obtain⟨a,j,i,b,kV,doc,pm,an,cdv,ct,dT,o,n,l,c,m,t,d⟩:=q;refine⟨f,_,ok _ dT ⟨j,i,kV,doc,pm,an,cdv,ct,b,rfl,l,c⟩,W.mg_of X G a,m,λs us p e=>?_⟩;rw[Na]at e ⊢;obtain⟨g,h1,h2⟩:=hb dT kV doc pm an cdv ct us e;exact BindsTo.of_defaults rfl (p _ _ t) d h1 h2
theorem all_mk{l:W.OpenLaw}{K:W.Frag}{mg:ND}{fa:Addr}(X:K.In h)(G:h.Ns mainGlobals mg)(KW:mg "law"=some (.ref fa))
  (a1:FK K "only_of" my f1) (a2:FK K "is_name" me f2) (a3:FK K "are_signs" iT f3) (a4:FK K "check_made_of" eS f4) (a5:FK K "numbers_by_name" dS f5) (a6:FK K "mirror" pJ f6) (a7:FK K "column_from_below" dA f7) (a8:FK K "quarter" lZ f8) (a9:FK K "turned" pj f9) (J':FK K "after" ua f10) (LQ:FK K "back" xh f11) (K0:FK K "shown" uf f12) (KG:FK K "windows_of" ig f13) (JZ:FK K "cut_out" lQ f14) (KF:FK K "cells_then_rows" dL f15) (KO:FK K "seen_in" ma f16) (K3:FK K "parted" o8 f17) (LN:FK K "parted_texts" fL f18) (Kn:FK K "cost_by" mx f19) (JW:FK K "coming" om f20) (Kx:FK K "lower" tM f21) (LA:FK K "put_together" fF f22) (LB:FK K "turn_about" hJ f23) (L6:FK K "enter_turnings" dZ f24) (LX:FK K "enter_seen" gO f25) (KC:FK K "table_of" jX f26) (Lj:FK K "name_asked" hX f27) (Mi:IM K "least_cost" hZ f28) (Mf:FK K "how_many" kq f29) (Kj:FK K "chains" pV f30) (Lg:FK K "all_pictures" fA f31) (Ml:FK K "pictures_of" gt f32) (Mc:FK K "_law_cell" pi f33) (KM:FK K "_law_cells" lN f34) (Kk:FK K "_law_whole" mz f35) (Kq:FK K "_law_signs" mL f36) (LW:FK K "_law_names" lX f37) (Ls:FK K "_law_rule" oY f38) (Ks:FK K "_law_grammar" i6 f39) (Kf:FK K "_law_turned" kf f40) (K1:FK K "_law_joined" j8 f41) (Mm:FK K "_law_noted" mF f42) (Lw:FK K "_law_put" s_ f43) (LP:FK K "_law_step" pQ f44) (J8:FK K "_law_grown" mj f45) (JY:FK K "_law_power" mr f46) (Lr:FK K "_law_too_many" ie f47) (Mj:FK K "_law_picture" iV f48) (J9:FK K "_law_listed" ka f49) (L9:FK K "law" sN f50)
  {yad yaf zxa zda zna zaa zja zba zla zca zoa zga zya zsa zua zza zea zpa zKa zAa zBa zma yaa yaH yaC yac yae:Addr} {ybR ybK ybU ybP ybF ybs ybM ybC ybv:Tok} {ybw ybu ybJ:NK} {ybD ybB ybk:ClassData} {ybo ybn ybG:Array (Option Value)}  (Fd:W.nsIn K mainGlobals "NoName"=some (some (.ref yad))) (C9:K.lookup yad=some ⟨.type "type",ybw,.cls ybD,ybo⟩) (wc:W.excIn K yad [.type "ValueError",.type "Exception",.type "BaseException",.type "object"] "ValueError.__new__"=true) (Ad:W.findIn K (.ref yad) "__getattribute__"=some (some (.builtin "BaseException.__getattribute__"))) (AB:W.findIn K (.ref yad) "__getattr__"=some none) (Bf:W.mroIn K yad (.type "BaseException")=some true) (Ap:W.mroIn K yad (.type "object")=some true) (zY:W.findIn K (.ref yad) "__class__"=some (some (.builtin "object.__class__"))) (D4:W.specialIn K (.builtin "object.__class__") "__get__"=some (some (.builtin "getset_descriptor.__get__"))) (EV:W.takesIn K (.builtin "object.__class__")=some true) (zX:W.nsIn K mainGlobals "CAPITALS"=some (some (.str "ABCDEFGHIJKLMNOPQRSTUVWXYZ" ybR))) (ER:W.nsIn K mainGlobals "SMALLS"=some (some (.str "abcdefghijklmnopqrstuvwxyz" ybK))) (qV:W.nsIn K mainGlobals "LONGEST_NAME"=some (some (.int 4 ybU))) (Ir:W.nsIn K mainGlobals "Rule"=some (some (.ref yaf))) (Hn:W.specialIn K (.ref yaf) "__getattribute__"=some (some (.builtin "type.__getattribute__"))) (G0:W.readsIn K yaf (.type "type")=true) (nV:W.findCls K (.ref yaf) (.type "type") "__init__"=some (.val (.ref zxa))) (nR:MK K "__init__" "Rule.__init__" fR zxa) (Bo:W.nsIn K mainGlobals "CellRule"=some (some (.ref zda))) (K9:W.plainGet K zda Str.empty=true) (Kh:W.hasDictIn K zda=true) (Lv:W.plainOver K zda=true) (LS:W.findIn K (.ref zda) "__setattr__"=some (some (.builtin "object.__setattr__"))) (Lp:W.findIn K (.ref zda) "__class__"=some (some (.builtin "object.__class__"))) (LL:W.mroIn K zda (.type "object")=some true) (KP:W.findIn K (.ref zda) "name"=some none) (Md:W.findIn K (.ref zda) "cost"=some none) (KR:W.findIn K (.ref zda) "part_names"=some none) (L4:W.findIn K (.ref zda) "sign"=some none) (xC:W.makesIn K zda=true) (xp:W.findIn K (.ref zda) "__init__"=some (some (.ref zna))) (jF:MK K "__init__" "CellRule.__init__" f_ zna) (yd:W.keepIn K (.ref zda)=true) (Ki:W.kitOne K (.ref zda) (.ref yaf)=some true) (JO:W.kitOne K (.ref zda) (.ref zda)=some true) (v6:W.nsIn K mainGlobals "BesideRule"=some (some (.ref zaa))) (KL:W.plainGet K zaa Str.empty=true) (L7:W.hasDictIn K zaa=true) (KQ:W.plainOver K zaa=true) (Lx:W.findIn K (.ref zaa) "__setattr__"=some (some (.builtin "object.__setattr__"))) (K8:W.findIn K (.ref zaa) "__class__"=some (some (.builtin "object.__class__"))) (Lc:W.mroIn K zaa (.type "object")=some true) (Me:W.findIn K (.ref zaa) "name"=some none) (KS:W.findIn K (.ref zaa) "cost"=some none) (Kb:W.findIn K (.ref zaa) "part_names"=some none) (KA:W.findIn K (.ref zaa) "one"=some none) (Kv:W.findIn K (.ref zaa) "other"=some none) (uI:W.makesIn K zaa=true) (u7:W.findIn K (.ref zaa) "__init__"=some (some (.ref zja))) (iA:MK K "__init__" "BesideRule.__init__" d9 zja) (tD:W.keepIn K (.ref zaa)=true) (LR:W.kitOne K (.ref zaa) (.ref yaf)=some true) (JT:W.kitOne K (.ref zaa) (.ref zaa)=some true) (xE:W.nsIn K mainGlobals "AboveRule"=some (some (.ref zba))) (Lh:W.plainGet K zba Str.empty=true) (KN:W.hasDictIn K zba=true) (Mp:W.plainOver K zba=true) (Kw:W.findIn K (.ref zba) "__setattr__"=some (some (.builtin "object.__setattr__"))) (KJ:W.findIn K (.ref zba) "__class__"=some (some (.builtin "object.__class__"))) (LY:W.mroIn K zba (.type "object")=some true) (Mo:W.findIn K (.ref zba) "name"=some none) (Ln:W.findIn K (.ref zba) "cost"=some none) (K6:W.findIn K (.ref zba) "part_names"=some none) (JX:W.findIn K (.ref zba) "one"=some none) (Kg:W.findIn K (.ref zba) "other"=some none) (vw:W.makesIn K zba=true) (wH:W.findIn K (.ref zba) "__init__"=some (some (.ref zla))) (jb:MK K "__init__" "AboveRule.__init__" eZ zla) (wL:W.keepIn K (.ref zba)=true) (Km:W.kitOne K (.ref zba) (.ref yaf)=some true) (JK:W.kitOne K (.ref zba) (.ref zba)=some true) (Aj:W.nsIn K mainGlobals "TurnRule"=some (some (.ref zca))) (Ll:W.plainGet K zca Str.empty=true) (Li:W.hasDictIn K zca=true) (J0:W.plainOver K zca=true) (Ka:W.findIn K (.ref zca) "__setattr__"=some (some (.builtin "object.__setattr__"))) (Kd:W.findIn K (.ref zca) "__class__"=some (some (.builtin "object.__class__"))) (LM:W.mroIn K zca (.type "object")=some true) (Lo:W.findIn K (.ref zca) "name"=some none) (Mg:W.findIn K (.ref zca) "cost"=some none) (Lu:W.findIn K (.ref zca) "part_names"=some none) (K2:W.findIn K (.ref zca) "part"=some none) (K4:W.findIn K (.ref zca) "turning"=some none) (xO:W.makesIn K zca=true) (yh:W.findIn K (.ref zca) "__init__"=some (some (.ref zoa))) (jC:MK K "__init__" "TurnRule.__init__" gb zoa) (w6:W.keepIn K (.ref zca)=true) (LH:W.kitOne K (.ref zca) (.ref yaf)=some true) (JM:W.kitOne K (.ref zca) (.ref zca)=some true) (wf:W.nsIn K mainGlobals "MOST_SIGNS"=some (some (.int 4 ybP))) (wb:W.nsIn K mainGlobals "MOST_RULES"=some (some (.int 24 ybF))) (wy:W.nsIn K mainGlobals "MOST_NAMES"=some (some (.int 8 ybs))) (A9:W.nsIn K mainGlobals "TURNINGS"=some (some (.int 8 ybM))) (KK:W.kitOne K (.ref zda) (.ref zaa)=some false) (Lb:W.kitOne K (.ref zda) (.ref zba)=some false) (Ld:W.kitOne K (.ref zda) (.ref zca)=some false) (Kl:W.kitOne K (.ref zaa) (.ref zda)=some false) (Lq:W.kitOne K (.ref zaa) (.ref zba)=some false) (K':W.kitOne K (.ref zaa) (.ref zca)=some false) (La:W.kitOne K (.ref zba) (.ref zda)=some false) (L5:W.kitOne K (.ref zba) (.ref zaa)=some false) (KD:W.kitOne K (.ref zba) (.ref zca)=some false) (J2:W.kitOne K (.ref zca) (.ref zda)=some false) (KH:W.kitOne K (.ref zca) (.ref zaa)=some false) (Ma:W.kitOne K (.ref zca) (.ref zba)=some false) (lL:W.findIn K (.ref zda) "parts"=some (some (.ref zga))) (tN:MK K "parts" "Rule.parts" fq zga) (nK:W.findIn K (.ref zda) "ways"=some (some (.ref zya))) (nu:MK K "ways" "CellRule.ways" fU zya) (kj:W.findIn K (.ref zaa) "parts"=some (some (.ref zga))) (ky:W.findIn K (.ref zaa) "ways"=some (some (.ref zsa))) (kD:MK K "ways" "BesideRule.ways" eD zsa) (lh:W.findIn K (.ref zba) "parts"=some (some (.ref zga))) (mK:W.findIn K (.ref zba) "ways"=some (some (.ref zua))) (lV:MK K "ways" "AboveRule.ways" eX zua) (ml:W.findIn K (.ref zca) "parts"=some (some (.ref zga))) (nw:W.findIn K (.ref zca) "ways"=some (some (.ref zza))) (nJ:MK K "ways" "TurnRule.ways" fX zza) (Dz:W.nsIn K mainGlobals "Grammar"=some (some (.ref zea))) (Lz:W.plainGet K zea Str.empty=true) (Kz:W.hasDictIn K zea=true) (K_:W.plainOver K zea=true) (Mh:W.findIn K (.ref zea) "__setattr__"=some (some (.builtin "object.__setattr__"))) (Lk:W.findIn K (.ref zea) "__class__"=some (some (.builtin "object.__class__"))) (J_:W.mroIn K zea (.type "object")=some true) (KZ:W.findIn K (.ref zea) "signs"=some none) (Kc:W.findIn K (.ref zea) "start"=some none) (LG:W.findIn K (.ref zea) "kept"=some none) (LU:W.findIn K (.ref zea) "numbers"=some none) (AM:W.makesIn K zea=true) (Ba:W.findIn K (.ref zea) "__init__"=some (some (.ref zpa))) (kc:MK K "__init__" "Grammar.__init__" fY zpa) (Be:W.keepIn K (.ref zea)=true) (qd:W.findIn K (.ref zea) "rule"=some (some (.ref zKa))) (qc:MK K "rule" "Grammar.rule" fZ zKa) (nB:W.findIn K (.ref zea) "rules"=some (some (.ref zAa))) (nv:MK K "rules" "Grammar.rules" fg zAa) (nr:W.findIn K (.ref zea) "names"=some (some (.ref zBa))) (nE:MK K "names" "Grammar.names" fk zBa) (iN:W.findIn K (.ref zea) "numbers_of"=some (some (.ref zma))) (iP:MK K "numbers_of" "Grammar.numbers_of" cY zma) (Hy:W.nsIn K mainGlobals "Cuts"=some (some (.ref yaa))) (Gv:W.plainGet K yaa Str.empty=true) (Gf:W.hasDictIn K yaa=true) (Gy:W.plainOver K yaa=true) (G2:W.findIn K (.ref yaa) "__setattr__"=some (some (.builtin "object.__setattr__"))) (Gp:W.findIn K (.ref yaa) "__class__"=some (some (.builtin "object.__class__"))) (GB:W.mroIn K yaa (.type "object")=some true) (pA:W.findIn K (.ref yaa) "picture"=some none) (wE:W.findIn K (.ref yaa) "text"=some none) (jG:W.findIn K (.ref yaa) "beside_texts"=some none) (kr:W.findIn K (.ref yaa) "above_texts"=some none) (GJ:W.makesIn K yaa=true) (Gj:W.findIn K (.ref yaa) "__init__"=some (some (.ref yaH))) (nz:MK K "__init__" "Cuts.__init__" ge yaH) (Go:W.keepIn K (.ref yaa)=true) (kn:W.findIn K (.ref yaa) "turned_text"=some (some (.ref yaC))) (jU:MK K "turned_text" "Cuts.turned_text" eF yaC) (vD:W.nsIn K mainGlobals "QuiltError"=some (some (.ref yac))) (tV:K.lookup yac=some ⟨.type "type",ybu,.cls ybB,ybn⟩) (lu:W.excIn K yac [.type "ValueError",.type "Exception",.type "BaseException",.type "object"] "ValueError.__new__"=true) (qT:W.findIn K (.ref yac) "__getattribute__"=some (some (.builtin "BaseException.__getattribute__"))) (q9:W.findIn K (.ref yac) "__getattr__"=some none) (qm:W.mroIn K yac (.type "BaseException")=some true) (qy:W.mroIn K yac (.type "object")=some true) (qJ:W.findIn K (.ref yac) "__class__"=some (some (.builtin "object.__class__"))) (HR:W.nsIn K mainGlobals "MOST"=some (some (.int 6 ybC))) (qa:W.nsIn K mainGlobals "MOST_PICTURES"=some (some (.int 300 ybv))) (Dm:W.nsIn K mainGlobals "TooMany"=some (some (.ref yae))) (sv:K.lookup yae=some ⟨.type "type",ybJ,.cls ybk,ybG⟩) (sJ:W.excIn K yae [.type "ValueError",.type "Exception",.type "BaseException",.type "object"] "ValueError.__new__"=true) (x_:W.findIn K (.ref yae) "__getattribute__"=some (some (.builtin "BaseException.__getattribute__"))) (yE:W.findIn K (.ref yae) "__getattr__"=some none) (yn:W.mroIn K yae (.type "BaseException")=some true) (xD:W.mroIn K yae (.type "object")=some true) (yq:W.findIn K (.ref yae) "__class__"=some (some (.builtin "object.__class__"))) (iS:ybk.mro.contains (.ref yac)=true) (J3:W.kitOne K (.ref yae) (.ref yae)=some true) (Ke:W.kitOne K (.ref yae) (.type "ValueError")=some true) (Ju:W.nsIn K mainGlobals "any"=some none)
  (z0:W.nsIn K mainGlobals "len"=some none) (z1:W.nsIn K mainGlobals "range"=some none) (z2:W.nsIn K mainGlobals "list"=some none) (z3:W.nsIn K mainGlobals "tuple"=some none) (z4:W.nsIn K mainGlobals "isinstance"=some none) (z5:W.nsIn K mainGlobals "int"=some none) (z6:W.nsIn K mainGlobals "bool"=some none) (z7:W.nsIn K mainGlobals "str"=some none) (z8:W.nsIn K mainGlobals "reversed"=some none) (z9:W.nsIn K mainGlobals "all"=some none) (Mb:W.nsIn K mainGlobals "enumerate"=some none) (LK:W.nsIn K mainGlobals "zip"=some none) (KY:W.nsIn K mainGlobals "sorted"=some none) (LD:W.nsIn K mainGlobals "set"=some none) (LF:W.nsIn K mainGlobals "dict"=some none) (LZ:W.nsIn K mainGlobals "min"=some none) (K5:W.nsIn K mainGlobals "max"=some none) (L':W.nsIn K mainGlobals "sum"=some none) (Ly:W.nsIn K mainGlobals "ValueError"=some none) :
  ∃fd:FuncData,(∀(s:Nz) (v:Value),BindsTo s fd ⟨[v],[]⟩ [("_law_script",v)])/\∀base:Heap,K.In base->base.Ns mainGlobals mg->aV l.prog w K mg base bd 12 fa fd ["_law_script"] (uM K):=by
 obtain⟨an,oc,od,osl,kV,doc,pm,ann,cdv,ct,hl,hc,hk⟩:=L9;have e:=KW.symm.trans (W.mg_of X G an);cases e;have FL:=cQ hl hc hk;have nb:NB mg:=⟨W.mg_none_of X G z0,W.mg_none_of X G z1,W.mg_none_of X G z2,W.mg_none_of X G z3,W.mg_none_of X G z4,W.mg_none_of X G z5,W.mg_none_of X G z6,W.mg_none_of X G z7,W.mg_none_of X G z8,W.mg_none_of X G z9,W.mg_none_of X G Mb,W.mg_none_of X G LK,W.mg_none_of X G KY,W.mg_none_of X G LD,W.mg_none_of X G LF,W.mg_none_of X G LZ,W.mg_none_of X G K5,W.mg_none_of X G L',W.mg_none_of X G Ly⟩;refine⟨W.fnOf "law" "law" (cZ sN) (cI sN) (am sN) .none kV doc pm ann cdv ct,λs v=>.of_eq rfl,λbase _ _=>?_⟩;have ya8:=W.mg_of X G Fd;have xc_NoName:tu K yad [.type "ValueError",.type "Exception",.type "BaseException",.type "object"] "ValueError.__new__":=⟨wc⟩;have yaT:XR K yad:=⟨_,_,_,_,_,_,_,_,⟨wc⟩,PySem.F.excBase_ValueError,rfl,PySem.F.excBase_ValueError⟩;have xt_NoName:W.XTy K yad:=⟨Ad,AB,Bf,Ap,zY,D4,EV,_,_,_,C9⟩;have ya1:=W.mg_of X G zX;have yam:=W.mg_of X G ER;have ya7:=W.mg_of X G qV;have ybp:=W.mg_of X G Ir;obtain⟨_,_,_,_,_,_,_,_,_,mlRule___init__,mcRule___init__,zXa,mfRule___init__⟩:=nR;have zYa:=cQ (st:=fR) mlRule___init__ mcRule___init__ zXa;have zwc:=zYa.binds (ps:=["self","name","cost","part_names"]) λ_ _ _ _ _ _=>bd4 λ_ _ _ _=>rfl
 have ybW:C6 K yaf "__init__" zxa:=⟨Hn,G0,nV,zXa⟩;have zRa:=W.mg_of X G Bo;have zLa:jE K zda:=⟨⟨K9,Kh,Lv,LS⟩,Lp,D4,EV,LL⟩;obtain⟨_,_,_,_,_,_,_,_,_,mlCellRule___init__,mcCellRule___init__,zBb,mfCellRule___init__⟩:=jF;have zHa:=cQ (st:=f_) mlCellRule___init__ mcCellRule___init__ zBb;have zCb:=zHa.binds (ps:=["self","name","cost","sign"]) λ_ _ _ _ _ _=>bd4 λ_ _ _ _=>rfl
 have zWc:Mk K zda zna:=⟨xC,xp,mfCellRule___init__,yd⟩;have zNc:=W.mg_of X G v6;have zta:jE K zaa:=⟨⟨KL,L7,KQ,Lx⟩,K8,D4,EV,Lc⟩;obtain⟨_,_,_,_,_,_,_,_,_,mlBesideRule___init__,mcBesideRule___init__,zpb,mfBesideRule___init__⟩:=iA;have zva:=cQ (st:=d9) mlBesideRule___init__ mcBesideRule___init__ zpb;have zqb:=zva.binds (ps:=["self","name","cost","one","other"]) λ_ _ _ _ _ _=>bd5 λ_ _ _ _ _=>rfl
 have zGc:Mk K zaa zja:=⟨uI,u7,mfBesideRule___init__,tD⟩;have zXc:=W.mg_of X G xE;have zCa:jE K zba:=⟨⟨Lh,KN,Mp,Kw⟩,KJ,D4,EV,LY⟩;obtain⟨_,_,_,_,_,_,_,_,_,mlAboveRule___init__,mcAboveRule___init__,zyb,mfAboveRule___init__⟩:=jb;have zDa:=cQ (st:=eZ) mlAboveRule___init__ mcAboveRule___init__ zyb;have zzb:=zDa.binds (ps:=["self","name","cost","one","other"]) λ_ _ _ _ _ _=>bd5 λ_ _ _ _ _=>rfl
 have zOc:Mk K zba zla:=⟨vw,wH,mfAboveRule___init__,wL⟩;have zwa:=W.mg_of X G Aj;have zMa:jE K zca:=⟨⟨Ll,Li,J0,Ka⟩,Kd,D4,EV,LM⟩;obtain⟨_,_,_,_,_,_,_,_,_,mlTurnRule___init__,mcTurnRule___init__,zDb,mfTurnRule___init__⟩:=jC;have zIa:=cQ (st:=gb) mlTurnRule___init__ mcTurnRule___init__ zDb;have zEb:=zIa.binds (ps:=["self","name","cost","part","turning"]) λ_ _ _ _ _ _=>bd5 λ_ _ _ _ _=>rfl
 have zYc:Mk K zca zoa:=⟨xO,yh,mfTurnRule___init__,w6⟩
 let R:RC:=⟨yaf,zda,zaa,zba,zca⟩
 have rk:mR K R:=⟨zLa,zta,zCa,zMa,⟨KP,Md,KR,L4⟩,⟨Me,KS,Kb,KA,Kv⟩,⟨Mo,Ln,K6,JX,Kg⟩,⟨Lo,Mg,Lu,K2,K4⟩,Ki,LR,Km,LH,JO,JT,JK,JM⟩;have ybe:=W.mg_of X G wf;have ybc:=W.mg_of X G wb;have ya4:=W.mg_of X G wy;have yao:=W.mg_of X G A9;have rk4:Do K R:=⟨λi j hi hj=>by rcases eC hi with rfl | rfl | rfl | rfl<;>rcases eC hj with rfl | rfl | rfl | rfl;exact JO;exact KK;exact Lb;exact Ld;exact Kl;exact JT;exact Lq;exact K';exact La;exact L5;exact JK;exact KD;exact J2;exact KH;exact Ma;exact JM⟩;obtain⟨_,_,_,_,_,_,_,_,_,mlRule_parts,mcRule_parts,zqa,mfRule_parts⟩:=tN;have zra:=cQ (st:=fq) mlRule_parts mcRule_parts zqa;have zEa:=zra.binds (ps:=["self"]) λ_ _ _ _ _ _=>bd1 λ_=>rfl
 have zXb:iz K zda "parts" zga:=⟨lL,mfRule_parts,zqa⟩;obtain⟨_,_,_,_,_,_,_,_,_,mlCellRule_ways,mcCellRule_ways,zZa,mfCellRule_ways⟩:=nu;have zab:=cQ (st:=fU) mlCellRule_ways mcCellRule_ways zZa;have zxc:=zab.binds (ps:=["self","cuts"]) λ_ _ _ _ _ _=>bd2 λ_ _=>rfl
 have zhc:iz K zda "ways" zya:=⟨nK,mfCellRule_ways,zZa⟩;have zFb:iz K zaa "parts" zga:=⟨kj,mfRule_parts,zqa⟩;obtain⟨_,_,_,_,_,_,_,_,_,mlBesideRule_ways,mcBesideRule_ways,zPa,mfBesideRule_ways⟩:=kD;have zQa:=cQ (st:=eD) mlBesideRule_ways mcBesideRule_ways zPa;have zYb:=zQa.binds (ps:=["self","cuts"]) λ_ _ _ _ _ _=>bd2 λ_ _=>rfl
 have zPb:iz K zaa "ways" zsa:=⟨ky,mfBesideRule_ways,zPa⟩;have zQb:iz K zba "parts" zga:=⟨lh,mfRule_parts,zqa⟩;obtain⟨_,_,_,_,_,_,_,_,_,mlAboveRule_ways,mcAboveRule_ways,zUa,mfAboveRule_ways⟩:=lV;have zVa:=cQ (st:=eX) mlAboveRule_ways mcAboveRule_ways zUa;have zic:=zVa.binds (ps:=["self","cuts"]) λ_ _ _ _ _ _=>bd2 λ_ _=>rfl
 have zZb:iz K zba "ways" zua:=⟨mK,mfAboveRule_ways,zUa⟩;have zac:iz K zca "parts" zga:=⟨ml,mfRule_parts,zqa⟩;obtain⟨_,_,_,_,_,_,_,_,_,mlTurnRule_ways,mcTurnRule_ways,zbb,mfTurnRule_ways⟩:=nJ;have zcb:=cQ (st:=fX) mlTurnRule_ways mcTurnRule_ways zbb;have zyc:=zcb.binds (ps:=["self","cuts"]) λ_ _ _ _ _ _=>bd2 λ_ _=>rfl
 have zjc:iz K zca "ways" zza:=⟨nw,mfTurnRule_ways,zbb⟩;have zwd:=W.mg_of X G Dz;have zha:jE K zea:=⟨⟨Lz,Kz,K_,Mh⟩,Lk,D4,EV,J_⟩;obtain⟨_,_,_,_,_,_,_,_,_,mlGrammar___init__,mcGrammar___init__,zRb,mfGrammar___init__⟩:=kc;have zNa:=cQ (st:=fY) mlGrammar___init__ mcGrammar___init__ zRb;have zSb:=zNa.binds (ps:=["self","signs","start","rules"]) λ_ _ _ _ _ _=>bd4 λ_ _ _ _=>rfl
 have zmd:Mk K zea zpa:=⟨AM,Ba,mfGrammar___init__,Be⟩;have gk:JI K zea:=⟨zha,KZ,Kc,LG,LU⟩;obtain⟨_,_,_,_,_,_,_,_,_,mlGrammar_rule,mcGrammar_rule,zrb,mfGrammar_rule⟩:=qc;have zsb:=cQ (st:=fZ) mlGrammar_rule mcGrammar_rule zrb;have zDc:=zsb.binds (ps:=["self","k"]) λ_ _ _ _ _ _=>bd2 λ_ _=>rfl
 have zzc:iz K zea "rule" zKa:=⟨qd,mfGrammar_rule,zrb⟩;obtain⟨_,_,_,_,_,_,_,_,_,mlGrammar_rules,mcGrammar_rules,zdb,mfGrammar_rules⟩:=nv;have zeb:=cQ (st:=fg) mlGrammar_rules mcGrammar_rules zdb;have zAc:=zeb.binds (ps:=["self"]) λ_ _ _ _ _ _=>bd1 λ_=>rfl
 have zkc:iz K zea "rules" zAa:=⟨nB,mfGrammar_rules,zdb⟩;obtain⟨_,_,_,_,_,_,_,_,_,mlGrammar_names,mcGrammar_names,zfb,mfGrammar_names⟩:=nE;have zgb:=cQ (st:=fk) mlGrammar_names mcGrammar_names zfb;have zBc:=zgb.binds (ps:=["self"]) λ_ _ _ _ _ _=>bd1 λ_=>rfl
 have zlc:iz K zea "names" zBa:=⟨nr,mfGrammar_names,zfb⟩;obtain⟨_,_,_,_,_,_,_,_,_,mlGrammar_numbers_of,mcGrammar_numbers_of,zFa,mfGrammar_numbers_of⟩:=iP;have zGa:=cQ (st:=cY) mlGrammar_numbers_of mcGrammar_numbers_of zFa;have zAb:=zGa.binds (ps:=["self","name"]) λ_ _ _ _ _ _=>bd2 λ_ _=>rfl
 have ztb:iz K zea "numbers_of" zma:=⟨iN,mfGrammar_numbers_of,zFa⟩;have ybO:=W.mg_of X G Hy;have yai:jE K yaa:=⟨⟨Gv,Gf,Gy,G2⟩,Gp,D4,EV,GB⟩;obtain⟨_,_,_,_,_,_,_,_,_,mlCuts___init__,mcCuts___init__,mkCuts___init__,mfCuts___init__⟩:=nz;have ybh:=cQ (st:=ge) mlCuts___init__ mcCuts___init__ mkCuts___init__;have ybL:=ybh.binds (ps:=["self","picture"]) λ_ _ _ _ _ _=>bd2 λ_ _=>rfl
 have yby:Mk K yaa yaH:=⟨GJ,Gj,mfCuts___init__,Go⟩;obtain⟨_,_,_,_,_,_,_,_,_,mlCuts_turned_text,mcCuts_turned_text,mkCuts_turned_text,mfCuts_turned_text⟩:=jU;have ybi:=cQ (st:=eF) mlCuts_turned_text mcCuts_turned_text mkCuts_turned_text;have ybz:=ybi.binds (ps:=["self","t"]) λ_ _ _ _ _ _=>bd2 λ_ _=>rfl
 have ybx:iz K yaa "turned_text" yaC:=⟨kn,mfCuts_turned_text,mkCuts_turned_text⟩;have nc:FD K yaa:=⟨pA,wE,jG,kr⟩;have ya5:=W.mg_of X G vD;have ybS:tu K yac [.type "ValueError",.type "Exception",.type "BaseException",.type "object"] "ValueError.__new__":=⟨lu⟩;have xr_QuiltError:XR K yac:=⟨_,_,_,_,_,_,_,_,⟨lu⟩,PySem.F.excBase_ValueError,rfl,PySem.F.excBase_ValueError⟩;have xt_QuiltError:W.XTy K yac:=⟨qT,q9,qm,qy,qJ,D4,EV,_,_,_,tV⟩;have yau:=W.mg_of X G HR;have yaY:=W.mg_of X G qa;have yan:=W.mg_of X G Dm;have ybN:tu K yae [.type "ValueError",.type "Exception",.type "BaseException",.type "object"] "ValueError.__new__":=⟨sJ⟩;have yaU:XR K yae:=⟨_,_,_,_,_,_,_,_,⟨sJ⟩,PySem.F.excBase_ValueError,rfl,PySem.F.excBase_ValueError⟩;have ybr:W.XTy K yae:=⟨x_,yE,yn,xD,yq,D4,EV,_,_,_,sv⟩;have ybV:BW K yae yac:=⟨_,_,_,sv,iS⟩;have yaP:mg "any"=none:=W.mg_none_of X G Ju;have yah:=a1∣yO F nb;have yal:=a2∣xz F nb ya7 ya1 yah;have zfa:Bc l.prog w K mg base bd 3 "Rule" "__init__" ["self","name","cost","part_names"] (dm K):=⟨_,_,_,tL zYa nb yal,ybp,ybW,zwc⟩;have zhb:l_ l.prog w K mg base bd 4 "CellRule" zda ["self","name","cost","sign"] (ii K):=⟨_,_,tT zHa nb yam yah zfa,zRa,zWc,zCb⟩;have zOa:l_ l.prog w K mg base bd 4 "BesideRule" zaa ["self","name","cost","one","other"] (dw K):=⟨_,_,oB zva nb zfa,zNc,zGc,zqb⟩;have zSa:l_ l.prog w K mg base bd 4 "AboveRule" zba ["self","name","cost","one","other"] (dw K):=⟨_,_,qL zDa nb zfa,zXc,zOc,zzb⟩;have zib:l_ l.prog w K mg base bd 4 "TurnRule" zca ["self","name","cost","part","turning"] (hV K):=⟨_,_,uF zIa nb zfa,zwa,zYc,zEb⟩;have yaz:yA l.prog w K mg base bd 1 "parts" (p_ K R):=FM ⟨_,_,_,d8 zra nb,zLa.cl,zXb,zEa⟩ ⟨_,_,_,d8 zra nb,zta.cl,zFb,zEa⟩ ⟨_,_,_,d8 zra nb,zCa.cl,zQb,zEa⟩ ⟨_,_,_,d8 zra nb,zMa.cl,zac,zEa⟩;have yaM:=a3∣va F nb ybe yam yah;have yaS:=a4∣mD F nb rk rk4 ybc zRa yaM yal;have ya0:=a5∣jV F nb rk yaz;have zub:l_ l.prog w K mg base bd 4 "Grammar" zea ["self","signs","start","rules"] (hU K R):=⟨_,_,uW zNa nb ya4 yaS ya0,zwd,zmd,zSb⟩;have yar:ij l.prog w K mg base bd 1 zea "rule" ["self","k"] (e_ R zea):=⟨_,_,tY zsb nb zha.cl gk.na,zha.cl,zzc,zDc⟩;have yay:ij l.prog w K mg base bd 1 zea "rules" ["self"] (gs R zea):=⟨_,_,qS zeb nb zha.cl gk.na,zha.cl,zkc,zAc⟩;have yaI:ij l.prog w K mg base bd 1 zea "names" ["self"] (gq R zea):=⟨_,_,q_ zgb nb zha.cl gk.na,zha.cl,zlc,zBc⟩;have yas:ij l.prog w K mg base (j6 l.prog w) 1 zea "numbers_of" ["self","name"] (cS R zea yad):=⟨_,_,j3 zGa nb zha.cl gk.na ya8 yaT,zha.cl,ztb,zAb⟩;have yaQ:=a6∣AU F nb;have yaB:=a7∣Bq F nb;have ybb:=a8∣yV F nb yaB;have zka:=a9∣A5 F nb yaQ ybb;have ybf:=J'∣B9 F;have yaD:=LQ∣Ef F;have yab:=K0∣BR F;have yaV:=KG∣rf F nb;have yaK:=JZ∣xA F nb;have yaZ:=KF∣j4 F nb;have yaL:=KO∣yF F nb yao yaV yaK zka yab yaZ;have yaX:=K3∣AI F nb;have yav:=LN∣ny F nb yaX yab;have ya9:l_ l.prog w K mg base bd 3 "Cuts" yaa ["self","picture"] (ik K):=⟨_,_,um ybh nb yab yav,ybO,yby,ybL⟩;have zJa:ij l.prog w K mg base bd 4 yaa "turned_text" ["self","t"] (fB yaa):=⟨_,_,oW ybi nb yai.cl nc zka yab,yai.cl,ybx,ybz⟩;have yaE:yA l.prog w K mg base bd 5 "ways" (oS R yaa):=FM ⟨_,_,_,(uD zab yai.cl nc zLa.cl rk.a0.2.2.2).mono nofun,zLa.cl,zhc,zxc⟩ ⟨_,_,_,(pz zQa yai.cl nc zta.cl ⟨rk.a1.2.2.2.1,rk.a1.2.2.2.2⟩).mono nofun,zta.cl,zPb,zYb⟩ ⟨_,_,_,(qQ zVa yai.cl nc zCa.cl ⟨rk.a2.2.2.2.1,rk.a2.2.2.2.2⟩).mono nofun,zCa.cl,zZb,zic⟩ ⟨_,_,_,tW zcb yai zMa.cl ⟨rk.a3.2.2.2.1,rk.a3.2.2.2.2⟩ zJa yaD,zMa.cl,zjc,zyc⟩;have ybd:=Kn∣xP F nb rk;have yba:=JW∣Bw F nb yar yaE ybd;have yap:=Kx∣Ch F nb;have yaF:=LA∣nA F nb rk yai.cl nc yar yba yap;have ya3:=LB∣qx F nb rk ybf yap
 have yaJ:=L6∣lx F nb rk rk4 yai nc yao zwa yay yaI ya9 zka yaF ya3;have yaq:=LX∣qI F nb yaL yab yaJ;have ya2:=KC∣vR F nb yaq;have yaW:=Lj∣qt F nb zha.cl gk.na yas;have yaA:=Mi.cal (P:=l.prog) (w:=w) (base:=base) X G (λ_ _ F=>qA F nb yaW ya2 yab) λ_ _ _ _ _ _ _ us hl=>match us,hl with | [_,_,_],_=>⟨_,rfl,rfl⟩
 have yaO:=Mf∣wO F nb;have yat:=Kj∣AT F nb;have yaG:=Lg∣nO F nb yau yat;have yak:=Ml∣oE F nb zha.cl gk.na yaY yan yaU yas yaO yaG yaq yab;have zia:=Mc∣A6 F nb;have zIb:=KM∣yy F nb zia;have zHb:=Kk∣xN F nb;have zJb:=Kq∣yl F nb;have zKb:=LW∣yk F nb;have zcc:=Ls∣AA F nb rk zhb zOa zSa zib;have zkb:=Ks∣u0 F nb gk zcc zub;have zvb:=Kf∣wN F nb;have zwb:=K1∣vH F nb;have zGb:=Mm∣yz F nb;have zmb:=Lw.cal l.prog w base X G (λ_ F m k b=>Cd F nb nb.sum zGb) (λ_ _ _ _ _ _=>bd6 λ_ _ _ _ _ _=>rfl);have zdc:=LP∣A7 F nb zmb zvb zwb;have zLb:=J8∣yo F nb zdc;have zMb:=JY∣xF F nb;have zTa:=Lr∣rh F nb ya5 yan ybS.out rfl ybN.out ybV ybr J3 Ke yak;have zjb:=Mj∣uK F nb yaP;have zxb:=J9∣wB F nb zHb zjb;exact GN FL nb zia zIb zJb zKb zLb zkb zMb zTa yak yaA zxb
theorem walk{l:W.OpenLaw}{loose:NG}{XP:(Str->Option Value)->Heap->Prop}{YP:World->Heap->Prop}{d:DefRec}{K:Params->W.Frag}(hn:l.most=some 63)(hdf:d.params.defaults=[])
  (hY:∀(w:NJ) (h:Heap),YP w h->(K w.params).In h)
  (F:∀(w:NJ) (mg:ND) (fa:Addr) (h:Heap),(K w.params).In h->h.Ns mainGlobals mg->mg d.name=some (.ref fa) ->
   ∃fd:FuncData,(∀(s:Nz) (u:Value),BindsTo s fd ⟨[u],[]⟩ [("_law_script",u)])/\∀base:Heap,(K w.params).In base->base.Ns mainGlobals mg->aV l.prog w (K w.params) mg base bd 12 fa fd ["_law_script"] (uM (K w.params))) :
  W.WalkO q loose XP YP l.row.toRowW d [] (λf vs=>PySem.call f vs):=
 L2.walk_of (n:=63) (k:=12) (x:="_law_script") (CX:=λ_=>bd) (sp:=λw=>uM (K w.params)) hn nofun hdf ⟨rfl,nofun,nofun⟩ hY F (λ_ _ a ns hl _ hS=>⟨a,ns,rfl,hS,λ_=>rfl⟩) λ_ _ _ _ _ z=>z
end Q38
open PySem PySem.W PyProof.Rows
local macro_rules | `(tactic| walk_at "kk")=>`(tactic| first | (refine' Q38.fk_mk ?p ?q ?r ?s;(case p=>k_is);(case q=>k_is);(case r=>k_is);(case s=>k_is)) | (refine' Q38.fkd_mk ?p ?q ?r ?s ?t ?u;(case p=>k_is);(case q=>k_is);(case r=>k_is);(case s=>k_is);(case t=>k_is);(case u=>rfl)) | (refine' Q38.mk_mk ?p ?q ?r ?s;(case p=>k_is);(case q=>k_is);(case r=>k_is);(case s=>k_is)) | k_is | kernel_rfl | rfl | decide +kernel)
set_option maxRecDepth 100000 in
set_option maxHeartbeats 0 in
theorem PySem.Challenge.cw_quiltlaw_k38_pictures_listed_holds : PySem.Challenge.rw_quiltlaw_k38_pictures_listed.Holds := by
 w_on;o_law;k_head;(case hw=>w_witness2)
 k_fill
 refine Q38.walk (l:=PySem.Challenge.rw_quiltlaw_k38_pictures_listed) rfl rfl (λw h Y=>PySem.W.kIn_of Y) ?F
 case F=>
  intro w mg fa h KX G hmg
  apply Q38.all_mk KX G hmg
  all_goals (try walk_at "kk")
