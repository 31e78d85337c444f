import PyProof.Rows.All
import Wide.All
import OpenK.AllK
import Wide.FinOn
import Lean
import PyProof.EqAt
import PyProof.EqKinds
import PyProof.TupleCall
import PyProof.CollectIter
import PyProof.JoinWalk
import PyProof.StrOps
import PyProof.ListOps
import PyProof.StrLawsJoin
import KE.KRevIter
import PyProof.StrLawsFirst
import PyProof.Rows.StrNews2
import PyProof.StrLawsTight
import PyProof.StrLawsChain
import KE.KIntText
import KE.IntTextLaws
import PyProof.ListStr
import KE.KDictLaws
import KE.KDictList
import PyProof.Rows.SetFrom
import PyProof.FitsReplace
import KE.KEqDict
import PyProof.Rows.SumAny
import PyProof.Rows.CallKwBuiltin
import PyProof.EnumMake
import PyProof.TupleIter
import PyProof.Rows.TupIter
import PyProof.FactsAll.range_2
import PyProof.AutoSeq1
import PyProof.Rows.Range3
import PyProof.ZipIter
import PyProof.Rows.SortRuns
import PyProof.Rows.SortPure
import PyProof.Rows.SortShell
import PyProof.Rows.SortStr
import PyProof.MeetsSeq3
import KE.KSortTup
import KE.KSortKey
import PyProof.MeetsDictList
import PyProof.CollectStr
import PySem.Challenge.RW_quiltlaw_k39_sizes_within_bounds
set_option bootstrap.genMatcherCode false
set_option tactic.hygienic false
def nop(x:Lean.Syntax):Lean.Syntax:=x.rewriteBottomUp λ|.atom _ v=>.atom .none v|.ident _ r n p=>.ident .none r n p|.node _ k a=>.node .none k a|y=>y
local macro_rules|`($m:declModifiers theorem $i:declId $s:declSig $v:declVal)=>do
 if i.raw.getPos?.isNone then Lean.Macro.throwUnsupported
 return nop (<-`($m:declModifiers theorem $i $s:declSig $v:declVal))
local macro_rules|`($m:declModifiers def $i:declId $s:optDeclSig $v:declVal)=>do
 if m.raw != (<-`(def x:=0)).raw[0]then Lean.Macro.throwUnsupported
 return nop (<-`(noncomputable def $i $s $v:declVal))
local macro_rules|`($m:declModifiers abbrev $i:declId $s:optDeclSig $v:declVal)=>do
 if m.raw != (<-`(def x:=0)).raw[0]then Lean.Macro.throwUnsupported
 return nop (<-`(noncomputable abbrev $i $s $v:declVal))
local macro_rules|`(command|set_option $o:ident $s:str)=>do
 if o.getId != `tw then Lean.Macro.throwUnsupported
 let n:=s.getString.toList.toArray.map λc=>if c.toNat<64 then c.toNat-35 else if c.toNat<92 then c.toNat-36 else c.toNat-37
 let a<-(List.range (n.size/10)).toArray.mapM λi=>let x:=(List.range 10).foldl (λa j=>a*90+n[10*i+j]!) 0;let y:=Lean.mkIdent (.mkSimple s!"tw{x}");`(command|theorem $y:ident:True:=⟨⟩)
 return Lean.mkNullNode a
namespace PySem.W.Fast
set_option tw "Kx14#X:T8k=n/s(+lo?L/,kUxZ-uEZ&N{uTH5k:g/.8wL}PhU=.}{Rw'{MqXL|o9x2J-r),[cQHv'_a33'a$(kKn]74S^-lD*q2573Sq)sAwgaAQ/+*VQU;i?kgnom_q0sGK:]||xw~k.)ohbfX38R#3+k,E91V73#uEGyQQ-#-nzJ7BKxo]$Je=l{P845Ec%B{BQfxk3dimyKt{F/LX*{mGSnv_?2t1qpDgDnKwFB+L&g`&IJ{^)i|y}MMg$VEhzvw4#HyT`#v4dt$RxlV7ewd62m~>MT3:mY:dQo3$7WYhJ%u/[x3E{U:e(>+Aw9eM.k$IsJe&-vPbc+h7ZA%M(ckJKjg(,h)*CV4bzNr2=Q=(z};*)M:Y|vpxk|fO',nKo9ek6>JSYYD'Fx1^KyA%h(#7*OC|dH,p0iQK3N,UKMgO=vKF$'Z*f>v&D8KO#{'kr[+C7xFx[.NnE}hc,GZ=kAD:uK%HK+-I#JD)&6aB;nS>EJC9mjkV(i/E}O_M]RJTwv'iC)sJJ*^1:DF>t#(-hXDa5EeR,cCm;kY>.TGZfjEWzM2D59GbXeNO9-S3HQNGda'gE&-`lv$Hve2:P]?9M[bP-,5M67K;#-LJu#1ok*yRAECw^(*bo%:5q=VIq:tuH8;Q4v%E>D=G5y(Y|S*+SVY=k2'j;R;BK*FHI}+-F5$PIqhCZVMT2Mdb2o)99S}=l%E_NR?^u`H%6|OT%A`$`gj$=W%CXGfy6q&Q??]/2m+ZHh'f'k/,Xp/S&;cg[5`^(jQch}?%=8k&OB}WdxNE:M5gR7e?jmOb1=nnTFvxutQx.4)N6yxQD%:FN}Q|}2JP3g_[BC{p4E2/HC1Gm*G4<#AAA&;SM8QHJ5KGQQDZNf>SGmw+MoetD.OC01HU*r5y'h[%$/N$5$8vwX:qWJ:UpN|BA]}f^TCu?X,U/#*G_xfB79PfM^BR#PS9|PXa6X&R-neucc3V&1Lc~V~dPL/a(sU&iJfo{],;k$x|r$QZOgU,i$B?Q%Pmwxtu]X<-5rvSjjl]nw6GloGmytrZQ:>MooZh2gQQN`NWCuDa(Ry/Nm8lX}4jwax5RW7#;cAe]rXqW|?G)z:y>3b>It4X)5ZL#88#ClSsRtS64E--deTse06W#(__.&?,PG2O'A>&1jSB)d-QKB<`HNJWqnF}:SIbIagIl,_8=qKK2Ghr^C3LI8wbB[{rC,~L]PQ/`S?2}CUndBNE3F-kKKM.mvQpC-A^Y?_<KzHvJ='L4.LrKO)o)sn6*[,-k:iM&G*n+X/9'<NA3cRSU#L#wUEAg?NUqNyIDb8iYz,zve7;j3X:[8TNBHHDz3)X)-+Z(#2Ot]m1;W0*A#.YCy7m~{y`x*Gy<]SDXE3{o_<FiYnh)i{=OJnE'6K.7N3Rh$|,%u)-Lc2K9jm7Tk0m%iJ?b<:'FQSOV~_VS;6EB:9ZYG>X>L{UVcK-;ZG%a^g`y:O?)M0mQ}TsYq>dzc2?2~Z1ITF`X0*lws*#Gl0i(5Nw*$eKjPE`;%?v[r^(jM{1H6eezyC|=RG3INnpO8T-)t36pl%rf}J%4lZa%{]S7gOuv(:}r07&Nt9FF=[~=fasBc%JJGG[9$m[nPgp+2L|+dF+R`&7DiJ/3LO,R8xz0&h]?KBF%]3<D[{CK{(Vh70UctB~^$)cM1Nh(&:ng8Dqs`*8f:*5h~Nl>Srb';4>eW60yt4IS$BtLZ_.TNn=cp,r`w5:^:(vG6vtcB7;S$-}}|eZV>$v4cX%A.^3&$DjB2m#RzYE-[FhMz2,(^J<Fwk.93_h.42PGHZVfz2iVt9I7r?p%+}tK`Vb`8*UXagwT}>o4F(a9,M/(B$4'ukHz'?]Ks(PEu|o%7Bn>8TlaEj5G</ZSnEZJaD~Q0FWP_&F#gz>n/UA.RKJfpn}AE?i7e1:q4'S]qMDw|;$5}l5PF=;tF/{'mGPzs;SVbou#{eQ`:oAS1(p2CImLztRRFHz[rA'']9b=ab_yv=D'D}FTiJ>NmITe3wSP%W%Jq3llChOPa<ihE_Nm7%i,(FfP8s0}HHXy/1(sF3#E*O9`Y7O4W1'0Ne_6a~|>+XttL]W}r8ZZP)fXiz*QTlv}fp)*6;T>99DRJOG.n~>%hdGp:4UmoB/C0n6KmU{erX+fC72fKbUxM6SNEXN]z}KhtKCb$#E$fOS$>PtNs~RcAO[ev-A|VG.(DHuP^6C$.K}_,^uW:nO(615%+s6j.7Vd.AZ,xIW:TC75=$'OxC_|+r2~l0G)i#J~bX*q(0:BwYWcmRc-A)Q/AhK?1G?Z|zFZ$AHO<fMY0Iv*])Tv[QV_krT6_bay&eRi_R6dDl*c0(7Ex.`:6Qd*DLAHz(k3{CP;]5p*dLuW/-X/5&cl%sBKdP,X<b_ILLim|_z^>q1Dy:[`H`p]9J':,5]R5W':n(<j5/U}9R`s$7pFW]sOMf6S=lY]sEe0HN|/6V=/M#M33uhXZ0=0pH=b~%o8J_|Q&|9X%Nu8/6(sl{wBrKZ,vyV^MKn[n>:]>?|-_soN=jV+.8_mFi#]hTdJamW7%sVip-^.[HIvVSIQf>0nx-Vy`Qd65?E=((zKdKT<PGNjn#BD*:ibx|f9vyM$H?p<YC<rK'Dt}k:'=*OnFe-AU,s~xVh#u<UC*ZRWBXy4$FT:bhnG|qt=_=}qSg2%>0'9;4iALM^09o[/%N_.zCC(0CcMGlE%O11Lo{zeKIBJb?p<R[I.I[Nm'+?%+MX/5NyQ833CIR}k&Ej#D0K}QL;GrF/;Y*ltbH^;L6)lhT30QB'B}(DoNojoH,r6ljgr}%u7H&s'f'a>s4e]#-j,-0_88kR2:OgEg,t>I`-:,_P:cI.y[HhAB>jv?c.|qX/(=HTGHlsh1B3mUnV:7y?B`=<kYPp+#<X(Q<E$KFH3oN>]*+Lz_0w:{C77yPHC(E<}DbWEc&V<1[<SUTe:m~=/Ubk6s:miL/+[KAk>s/Iyr,;]'H:dQs{z]m75i_<Xa|:j{6Z3JCi3r7UD5c$So`WY*IB`Zw'4=TAGjfQ'hrtCW>1C1F(t?uY3%;Jhu(OAl<t0tpx[ZPYRE3y1ATAFYP%3p?IUrn:#sjNYxNTOt+yDoWD-^]n?FF3o'#A#~4`9^%'Vyw~0tkZUW7Y{0,iHam~xPhK2%U6^1OBHYS+DDofRRNv&vE.[u-zUS&KPsJhl'0&Rp/P|}$kqYLOS#Y.kRp|GB%p;//eF^J*=9mF9t.h#y>3$Z$.5j5S=TElzRy8Mr=OEBI/snI`KsSogjESB0G+Si*[0*.SE~0&^6_JPMn}By]6f+$KbRoK,6haAhoe?o?P9g8R7ExIl&n3,IEGVEs8Am7rDN%-}hzDNDPE}.R`,}%x~9#:jPUqPtG$Qi`sn7&^:0GctKRR<C_LE{h_7J5zR|Y)|q&]7:j*ZywzIL=T%Ie)b.Jc;pqXy->9gNP?aDmE.4,;=?bKWt%qAP80DK|/2n_1'_O'Tp;/$z-Ge1Nv{FU0,3TUJTA4gSBD8wl#>3=6$fe^}qA|CI<$a:_BBfPG/%+jHAw&~~4w)ix)50w:QW~Pgo/-0Y<-l&/Vbo;2*nUF>e27fQQ>gcOfw<m>L`d/+VI]KvHorK{n(m6M2:DHII)l+G%a:jek7ug`DY}tKf274A,_%Lt3`C.A8H~2LpRxKr6X03A&N)24(m6Gzy:m#:Jx+TfB$*:{1yHGdpA1{'Na2}LBOl#?<'H0~8?yo/0fI'fN.Wo+,y[G,WW?7uEeq-rZGniq77di&OZH';22zqVb/j8o4~b]$jRenk=`]cAYPu3#QP]Hj&Xc3m0x'rHAVLu340*H9PHB2V;QIFr?{XEZH'UUWUD^G1FZXQATorA_DR)Mgz8%t-8%GP}]hoP]E7;a9c|'Q{*-)n`pzKnV>|^Y^(3NxoG4A3ttG$4oA[K*FTc;y<8?caw`+nm0J]?<h/H#}$#YkUQGCD#n4'^2YFfaoY*4N>}LR?v[)CFV{B5pd24F$mA3fsT45B`w/-{0s$NfewNO<6azNwdZ}[WL}~Pg+9~AxRK`-onJ9d[4{M($z)kms_e<PKEs'LMK:[+%ad`KP9^dFFB=Gkx'~d*pc}^5?-.O&(<(1yn-5rHQ1.zET+Lv>mG..4Q`8./V&#xmv7g(8rFv_#1PCp%$pVjF&`A>.`g1,d?].h1`#*ptL_EC(iy2{*LXs(97ps'|LX8TDps`[1dhW#5*k%S,vi~#Pv&{xhR_/5Op2|n?HzG34i7+iWvBd?Qtjy5UlAm)<^g|(kCz[3NSah3eZUlL8CHtgy3q67D('pV*`E6])f3,NmRUBV;64^;TOY2DG4b&',{^,'K%4_o*31aVBR_yu#o>H1#*X5nS(Wt+Dp^Xv^aPsk;uUPh`kg<$*$=-T1Wb:vCr}w1%-2kpRI_}U3R;*Q#v4iH0EED:GF=gkz]NVl:&)xPN'oWb)LX3Y>&R9[?eKo^WykYMI[r*cw[(&^9QpOz:e_e`/Gmo21l3&Q1iTm.y+c]p959<?3kwi6*xHB*=dTctMN0sSHH.AYQbnG,mJOX277>z]q0'e`5oNo:ANWv04,WFlD8GH|0n#;vg$W(A&0z=s]:s[r2wX73~>0dU2h[LYPSIoH0945vC5`zJH0q?H^U]^58#+9[AV+|c%f=bNxu'??DGT~$()sXy)3beFbRm(VC|%LH<U#%+$yc[?Wi&l%70{/n$F1I_<HN]MA|;:{1B=d~v2Itw8(Z,6?lGCo+;b7,pL:DL:tl&>j_`#+4:]3%PD7|1$6,QYwE>$J1ZaPvN&1R;RemZKKCPboEO_OP9UOB77:X~]U2u4x?*hy/isQRj'LVfbL5,gQD:dZP90M,C$T3S}JK-NUCHBLo|zEdxAit&{[g-g~QGq^0WCvIKIaPB=>_7pl(P3-i_Kk9n<FQ_2sa2/EDAN?#4uu.*;Z4<kIB|e<?$_Y-G?xECS.,u8%;GA|R}g{}gd?PzAbt-D,D94W:2r1awgG>>*W2j-}$Cj3>KZUK<)5Y/H7|;eT7et3=[PK6MB,%cIn4Do.UlmVC+:qNR-rioM<vS%L6u[L2?v*iQ*+Q?OoByLlEr.PFW-vAqPWNJF%:]F%k)1%18dc$XwRn'/.c8C.Dv;wDC~40rV'/1:da}#`2A)c)glhf1)n?N/)qR%a<#<iKBgq;{yw}BCGIxgWrw&m93RH6a9nug<{$IDO[$r}7V(HZ}Oi47E7vpA~/Iu5RkfrY|6`TgOr5)E|(G;FS/[1UDKb2(6JXH2=[y;d4f'A,km*OAC3%c#uJ5ln5I[eVvZBw.:9c7f`vn(<NF#~*GC~^$F^o3=wz;kx?fF*PVC?<(9xpz:86M%[A[a[c5J$4,#MnkJsgzYU;Ix6CLI`Q5'`*<l6G6vN$nC|BDT([1;TkE[i-:Nm:)`=}KYo6N;,Fm~hP4:R8F.~O+|*x9+=ifQuL2yy,>+,>l]pke(mcJryn`vNG5;]O?`$)e.m9t.rUUD?([(EKGJT2w;3Ks%5$3RH?mP_'XiX=i5x]i]TYMw]MT}y`2IOJ](Yhj%Xfx)m(e[A>6Vwdo'M7MTPGWmHLI^,4;~i,9Al6}ROK(D?-QC`CFIiv)-q849K,w9?QFMR0e:+x5)Yn0[{*Vu}=T<YGF872_7`d-u$kzR}Q.1D0z|.R].T}_1PY,PY&8?(Ae[uM[N5PABS6-A|7='NTa+>Hj,ok.$k/{WWO5l$#u<)C6O?OS)q?9`GI*Lo%xLw>&L]&9LXn]x&Isn$G(fOd2*kc2vB;a=(S8H;nI3|g~$mhUq{a==Q6t|_1UgNFA,JSy[RfZ=YE<P#9P-}cAMs<~m6&|YxD$0pN,^H}f/w_xf)`tPrQS0n,'J$zG<&OaK*+HqE(snIlF1r0h'`x,RY~TK.9Vy&#l'S^HLtc,cKCks1Ml^U#>VZYeRqu$mXXFkZM._e{`D,qs#BNC.MjRJs0Sw;KTezL9BjIkw&P4QX4V#Rqn[,]B9r>jw=Jhf'&;5TPJEj9F7$1U+I^p*e1'3gHWMpqc$3uWHOMG1N1|CGa-K#&yP?7(%*)dR5=NlIGV-bzyBS+BldJ5%C9NiLm=q`T27i0+(Ho]7GN+qt46vr5>F0Sdp2gd)G?7XeuhI4S^3/Oar.lkJC#E?k3;TA^A%iX*y+YN#.Hki+cCOrjA$mEwg(lil07EHb$B]2~85sMx%JNF4n>0<v)p.R2z5uV#K}.b/[<]6ow*uLt(6A3Z7^v5-:=J5{`d}W{GHfbmE/4Vr<'maCP.RY7d&Zx].l)k?O7NpJFA|#;hD+6F9uf;dRL1Q8Zdtr5PC+~&?0]8^s8t4=Xvh:rJ25S8A]dbN/1oMGQ1+y$w0TZ7'=AT/a5B`cA`XktsM-hn~-[FR3CY3As.p#xk7(gt~MoYaTAwq2hdTCV?+5pj4<J7C)E_U-:dZbHeBJTZ2T}xZX(fNM-<Ov<KEXo*G'MCD~65bMAe7'YOBuz:$ZgeHI0Ttzw3qEUCQ|4FM_]`{z--tbjdz*XEJ1+^,3Aey0FapO:u{cPbHUUsYL{gR^'rLH#bvn#$=d+:~ym/}b,jw;^~7)s,FOT<atL}M&4FSs,/g).|+=$nz9w.>G%X|GKv4stl;#>4q;4joA/i5#IJ9'/(?tboZ+TGyMLza]K9k=Y&I1pm;JZIz::J9bV6aw8GNOc[&TCr(S/G7/?2n=/(.[%y]~efif18^X5fBr}<28u6`N,|z[=&;`JjcL<X,)4/oS/OQuQ:k?T8%Lj?Hmpcr(2fK?>CGM(urb2aKIctP/3;s50m{-^=:J=-EI+l8tar7w-wiNaj-{r7CgwQyhkaK;*:mYtttVw_3:=d'4y^n#$$U(9bj-$iADmOTk-LJ5.;}X[+hDe)J)1D;gB2Rk4IPxiD'R070Oj&O.#<uoDM)3>r`WA;/2VlRkAw?94[~%'bhO7FOWhpJEwPWE<vN:ZeC`S8M+$j>o&*Q~0zr?L:b>PGS#H0U7e)=&Og(Hk3A&F|)isw-ALmpvC#b:kLo3{67]3e'|F`~n$RU1YxMX:E,SC8K?4|cS1DUfR5Iam::R8y,q%cLl-bH:fH2_.$I6M?i)x|C(+8lw0m/G;hAvE#DDRPBxE(/MR40]=G;Sf#mtCH$09QawGgGiD[I0fmlGo/Zx>lLg<{Cu-GRzh-c<c<-[=D~n$}D':~K'VY+#Hr_u"
end PySem.W.Fast
set_option autoImplicit true
set_option relaxedAutoImplicit true
abbrev q04:=@PySem.wpAny_bind
abbrev q05:=@PySem.wpAny_pure
abbrev q06:=@if_neg
abbrev q07:=@if_pos
abbrev q08:=@decide_eq_false
abbrev q09:=@decide_eq_true
abbrev q0A:=@List.getD_eq_getElem?_getD
abbrev q0B:=@List.mem_cons_self
abbrev q0C:=@List.mem_append_right
abbrev q0D:=@List.mem_append_left
abbrev q0E:=@List.take_add_one
abbrev q0F:=@List.take_of_length_le
abbrev q0G:=@Array.getElem?_toList
abbrev q0H:=@List.mem_of_mem_take
abbrev q0I:=@List.mem_of_mem_drop
abbrev q0J:=@List.length_range
abbrev q0K:=@List.map_congr_left
abbrev q0L:=@Option.getD_some
abbrev q0M:=@List.range_succ
abbrev q0N:=@List.length_zip
abbrev q0O:=@Bool.and_eq_true
abbrev q0P:=@Nat.le_of_lt
abbrev q0Q:=@absurd
abbrev q0R:=@congrArg
abbrev q0S:=@Option.some.inj
abbrev q0T:=@List.drop_eq_getElem_cons
abbrev q0U:=@List.filterMap_cons
abbrev q0V:=@Array.toList_append
abbrev q0W:=@PySem.sizeLine_eq
abbrev q0X:=@PySem.wpAny_mono
abbrev q0Y:=@PySem.wpAny_holding
abbrev q0Z:=@List.length_singleton
abbrev q0a:=@Bool.false_eq_true
abbrev q0b:=@decide_eq_true_eq
abbrev q0c:=@List.nodup_cons
theorem zzl(h:1=1:=by exact Or.inl rfl):1=1:=h
theorem zz0(h:1=1:=by rfl):1=1:=h
theorem zz1(h:1=1:=by decide):1=1:=h
theorem zz2(h:1=1:=by decide +kernel):1=1:=h
theorem zz3(h:1=1:=by first | exact .inl rfl | exact .inr rfl | assumption):1=1:=h
theorem zz4(h:1=1:=by intro _;rfl):1=1:=h
theorem zz5(h:1=1:=by with_unfolding_all rfl):1=1:=h
theorem zz6(h:1=1:=by first | exact Or.inl rfl | exact Or.inr (Or.inl rfl) | exact Or.inr (Or.inr rfl)):1=1:=h
local macro_rules|`(tactic|omega)=>`(tactic|first|lia|omega +splitDisjunctions)
set_option linter.all false
set_option Elab.async false
set_option maxRecDepth 100000
abbrev LV:=PySem.Value->PySem.Shared->Prop
abbrev LW:=PySem.W.Frag
abbrev LX:=List (PySem.Addr×PySem.Obj)
abbrev LY:=List Nat
abbrev LZ:=PySem.Shared
abbrev L4:=List PySem.Value
abbrev L5:=List PySem.Addr
abbrev L6:=PySem.Str->Option PySem.Value
abbrev L7:=PySem.FuncData
abbrev L8:=PySem.Program
abbrev L9:=List PySem.Str
abbrev Ma:=PySem.Around
abbrev Mb:=PySem.World
abbrev Mc:=Option PySem.Addr
abbrev Md:=List PySem.Expr
local macro_rules|`(term|⋯)=>`(by omega)
local macro_rules|`(term|nofun)=>`(by decide)
abbrev K0:=@List.getElem?_eq_getElem
abbrev K1:=@List.getElem?_eq_some_iff
abbrev K2:=@PySem.Heap.get?_push_of_some
abbrev K3:=@List.length_map
abbrev K4:=@List.mem_singleton
abbrev K5:=@List.getElem?_map
abbrev K6:=@List.mem_of_getElem?
abbrev K7:=@PySem.Heap.get?_update_other
abbrev K8:=@PySem.Heap.get?_push_size
abbrev K9:=@List.size_toArray
abbrev K_:=@List.getElem_mem
abbrev K':=@Int.toNat_natCast
abbrev La:=@PySem.Heap.get?_update_self
abbrev Lb:=@List.length_cons
abbrev Lc:=@List.map_append
abbrev Ld:=@List.mem_append
abbrev Le:=@List.map_map
abbrev Lf:=@List.mem_cons
abbrev Lg:=@List.mem_cons_of_mem
abbrev Lh:=@List.length_reverse
abbrev Li:=@Nat.lt_of_lt_of_le
abbrev Lj:=@Nat.ne_of_lt
abbrev Lk:=@List.getElem?_append_right
abbrev Ll:=@List.getElem?_append_left
abbrev Lm:=@List.length_append
abbrev Ln:=@Nat.le_refl
abbrev Lo:=@Nat.zero_le
abbrev Lp:=@Bool.false_ne_true
abbrev Lq:=@PySem.Heap.lt_size
abbrev Lr:=@Option.map_eq_some_iff
abbrev Ls:=@List.getElem?_cons_succ
abbrev Lu:=@List.map_cons
abbrev Lv:=@Nat.le_trans
abbrev Lw:=@Nat.lt_irrefl
abbrev Lx:=@Nat.lt_succ_self
abbrev Ly:=@List.append_nil
abbrev Lz:=@List.append_assoc
abbrev LA:=@List.getElem?_set_self
abbrev LB:=@List.take_length
abbrev LC:=@List.length_take
abbrev LD:=@List.length_drop
abbrev LF:=@List.reverse_append
abbrev LG:=@List.reverse_reverse
abbrev LH:=@Nat.lt_of_le_of_lt
abbrev LJ:=@List.length_eq_zero_iff
abbrev LK:=@List.mem_map
abbrev LL:=@List.all_eq_true
abbrev LM:=@Nat.add_le_add_left
abbrev LN:=@List.getElem_toArray
abbrev LO:=@List.nil_append
abbrev LP:=@Int.emod_nonneg
abbrev LQ:=@Int.emod_lt_of_pos
abbrev LR:=@Int.toNat_of_nonneg
abbrev LS:=@Nat.min_eq_left
abbrev LU:=@List.drop_zero
set_option hygiene false
local macro_rules|`(a⁻¹)=>`((.ins C b [("name",.str (tx n)),("cost",.int c),("part_names",.ref l)]))
local macro_rules|`(↑$f)=>`($f P w K mg base bf)
local macro_rules|`($a∣$b)=>`(($a).cal l.prog w base X G (λ_ F m k b=>$b))
set_option hygiene true
namespace L2
open PySem PySem.Spec PyProof.Rows
abbrev cP:=Sum Int Str
def o_:cP->Value->Bool
 | .inl k,v=>Value.isInt k v
 | .inr x,v=>Value.isStrOf x v
def HC(w:Mb):cP->Int
 | .inl k=>hashInt k
 | .inr x=>hashStr w x
theorem b7:∀{k:cP} {v:Value},o_ k v=true->(∃i t,k=Sum.inl i/\v=Value.int i t)\/(∃x t,k=Sum.inr x/\v=Value.str x t)
 | .inl i,v,h=>by
  obtain⟨t,e⟩:=Value.isInt_shape (k:=i) (v:=v) h;exact .inl ⟨i,t,rfl,e⟩
 | .inr x,v,h=>by
  obtain⟨t,e⟩:=Value.isStrOf_shape (x:=x) (v:=v) h;exact .inr ⟨x,t,rfl,e⟩
theorem zP(i:Int)(t:Tok):o_ (.inl i) (.int i t)=true:=by simp[o_,Value.isInt]
theorem yZ(x:Str)(t:Tok):o_ (.inr x) (.str x t)=true:=by simp[o_,Value.isStrOf]
theorem F0(a b:Int):decide ((Sum.inl a:cP)=Sum.inl b)=(a==b):=by
 by_cases e:a=b
 ·subst e;simp
 ·have h:¬ (Sum.inl a:cP)=Sum.inl b:=λq=>e (Sum.inl.inj q)
  rw[q08 h];exact(beq_eq_false_iff_ne.mpr e).symm
theorem Fd(a b:Str):decide ((Sum.inr a:cP)=Sum.inr b)=decide (a=b):=by
 by_cases e:a=b
 ·subst e;simp
 ·have h:¬ (Sum.inr a:cP)=Sum.inr b:=λq=>e (Sum.inr.inj q)
  rw[q08 h,q08 e]
theorem FY(a:Int)(b:Str):decide ((Sum.inl a:cP)=Sum.inr b)=false:=q08 (λq=>nomatch q)
theorem Fx(a:Str)(b:Int):decide ((Sum.inr a:cP)=Sum.inl b)=false:=q08 (λq=>nomatch q)
def bQ(prog:L8)(w:Mb):PySem.KeyKind prog w cP where
 is:=o_
 hash:=HC w
 inj:=λv a b ha hb=>by
  rcases b7 ha with⟨i,t,rfl,rfl⟩ | ⟨x,t,rfl,rfl⟩
  ·rcases b7 hb with⟨j,u,rfl,e⟩ | ⟨y,u,rfl,e⟩
   ·injection e with e1 _;rw[e1]
   ·exact nomatch e
  ·rcases b7 hb with⟨j,u,rfl,e⟩ | ⟨y,u,rfl,e⟩
   ·exact nomatch e
   ·injection e with e1 _;rw[e1]
 byValue:=λk v h=>by
  rcases b7 h with⟨i,t,rfl,rfl⟩ | ⟨x,t,rfl,rfl⟩<;>rfl
 pyHash:=λhv h=>by
  rcases b7 hv with⟨i,t,rfl,rfl⟩ | ⟨x,t,rfl,rfl⟩
  ·exact wpAny_pyHash_int h
  ·exact wpAny_pyHash_str h
 eqBool:=λhu hv h=>by
  rcases b7 hu with⟨i,t,rfl,rfl⟩ | ⟨x,t,rfl,rfl⟩
  ·rcases b7 hv with⟨j,u,rfl,rfl⟩ | ⟨y,u,rfl,rfl⟩
   ·rw[F0]at h;exact wpAny_eqBool_int h
   ·rw[FY]at h;exact SeqAt.EqAt.int_str i t y u _ _ _ _ h
  ·rcases b7 hv with⟨j,u,rfl,rfl⟩ | ⟨y,u,rfl,rfl⟩
   ·rw[Fx]at h;exact SeqAt.EqAt.str_int x t j u _ _ _ _ h
   ·rw[Fd]at h;exact wpAny_eqBool_str h
 «strs»:=λk x t v h=>by
  rcases b7 h with⟨i,u,rfl,e⟩ | ⟨y,u,rfl,e⟩
  ·exact nomatch e
  ·injection e with e1 _
   subst e1;cases v<;>rfl
theorem vK(prog:L8)(w:Mb)(i:Int)(t:Tok):(bQ prog w).is (.inl i) (.int i t)=true:=zP i t
theorem vT(prog:L8)(w:Mb)(x:Str)(t:Tok):(bQ prog w).is (.inr x) (.str x t)=true:=yZ x t
inductive V where
 |non | bl (b:Bool) | int (i:Int) | str (x:Str) | byt (b:Array UInt8) | flt (b:UInt64) | ref (a:Addr) | ty (n:String)
 deriving DecidableEq
def bh:V->Value->Prop
 | .non,u=>u=Value.none
 | .bl b,u=>u=Value.bool b
 | .int i,u=>∃t,u=Value.int i t
 | .str x,u=>∃t,u=Value.str x t
 | .byt b,u=>∃t,u=Value.bytes b t
 | .flt b,u=>∃t,u=Value.float b t
 | .ref a,u=>u=Value.ref a
 | .ty n,u=>u=Value.type n
abbrev bc:List V->List Value->Prop:=Paired bh
theorem bc.length(r:bc xs us):xs.length=us.length:=Paired.length r
theorem bc.get:∀{xs:List V} {us:L4} {i:Nat} {x:V},bc xs us->xs[i]?=some x->∃u,us[i]?=some u/\bh x u
 |_,_,_,_,.nil,e=>by simp at e
 |_,_,0,_,.cons r _,e=>by simp at e;subst e;exact⟨_,rfl,r⟩
 |_,_,i+1,x,.cons _ t,e=>by
  obtain⟨u,h1,h2⟩:=bc.get (i:=i) (x:=x) t (by simpa using e);exact⟨u,by simpa using h1,h2⟩
theorem bc.append:∀{xs ys:List V} {us ws:L4},bc xs us->bc ys ws->bc (xs++ys) (us++ws)
 |_,_,_,_,.nil,s=>s
 |_,_,_,_,.cons r t,s=>.cons r (bc.append t s)
theorem bc.take:∀{xs:List V} {us:L4} (n:Nat),bc xs us->bc (xs.take n) (us.take n)
 |_,_,0,_=>.nil
 |_,_,_+1,.nil=>.nil
 |_,_,n+1,.cons r t=>.cons r (bc.take n t)
theorem bc.drop:∀{xs:List V} {us:L4} (n:Nat),bc xs us->bc (xs.drop n) (us.drop n)
 |_,_,0,r=>r
 |_,_,_+1,.nil=>.nil
 |_,_,n+1,.cons _ t=>bc.drop n t
def iu:Option V->Option Value->Prop
 |some v,some u=>bh v u
 |none,none=>True
 |_,_=>False
def KV{κ:Type}:List (κ×V)->List (κ×Value)->Prop:=Paired fun(p:κ×V) (q:κ×Value)=>p.1=q.1/\bh p.2 q.2
def kV:cP->V
 | .inl i=>.int i
 | .inr x=>.str x
inductive HO where
  |lst (xs:List V)
  |tup (xs:List V)
  |dK (kvs:List (cP×V)) | dT (kvs:List (List cP×V))
  |set(S:Int->Bool) (n:Nat)
  |ins (C dx:Addr) (fs:List (Str×V))
  |own (x:Addr)
  |xd (fs:List (Str×V))
  |met (f x:Addr)
  |rng (lo hi:Int)
  |frz (o:Obj) (u:HO)
  |tbl (ps:Array Value)
  |ext (φ:Heap->Prop)
abbrev Hp:=Addr->Option HO
def aG(H:Hp)(a:Addr)(o:HO):Hp:=λb=>if b=a then some o else H b
theorem af:aG H a o a=some o:=by unfold aG;rw[q07 rfl]
theorem aq{a b:Addr}(h:b≠a):aG H a o b=H b:=by unfold aG;rw[q06 h]
theorem kb:aG (aG H a o) a u=aG H a u:=by
 funext b;unfold aG;split<;>rfl
theorem qz{H:Hp}{o u:HO}(h:H a=some o)(h':H b=some u)(d:o≠u):a≠b:=by
 intro e;subst e;rw[h]at h';exact d (q0S h')
theorem az{H:Hp}{o:HO}(h:H a=some o)(h':H b=none):a≠b:=by
 intro e;subst e;rw[h]at h';cases h'
section
variable (P:L8)(w:Mb)
def bK(H:Hp)(h:Heap)(a:Addr):HO->Prop
 | .lst xs=>xs.length<=sizeLine/\∃(its:L4) (n:Nat),bc xs its/\h.get? a=some {cls:=.type "list",data:=.seq its.toArray n}
 | .tup xs=>xs.length<=sizeLine/\∃its:List Value,bc xs its/\IsTup h a its.toArray
 | .dK kvs=>kvs.length<=sizeLine/\(a==sysModules)=false/\∃vs,KV kvs vs/\h.DictOf (bQ P w) a vs
 | .dT kvs=>kvs.length<=sizeLine/\(a==sysModules)=false/\∃xs:List (List cP×Addr×Value),
   Paired (fun(p:List cP×V) (q:List cP×Addr×Value)=>p.1=q.1/\H q.2.1=some (.tup (p.1.map kV))/\bh p.2 q.2.2) kvs xs /\
   ∃o es ep,h.get? a=some o/\o.ExactDict/\o.data=.dict es ep/\es.toList=xs.map (entryOfKey (tupleKind (bQ P w)))/\(xs.map (·.1)).Nodup
 | .set S n=>h.SetOf (intKind P w) a S n
 | .ins C dx fs=>H dx=some (.own a)/\fs.length<=1000/\dx≠a/\h.get? a=some (PySem.W.instObj C dx) /\
   ∃mA,h.Ns1 dx mA/\(∀f,iu (fs.lookup f) (mA f))/\PySem.Within mA (fs.map (·.1))
 | .own _=>∃o,h.get? a=some o
 | .xd fs=>∃mA,h.Ns1 a mA/\∀f,iu (fs.lookup f) (mA f)
 | .rng lo hi=>∃t u v,h.get? a=some {cls:=.type "range",data:=.fields #[.int lo t,.int hi u,.int 1 v]}
 | .frz o u=>h.get? a=some o/\bK H h a u
 | .tbl ps=>h.get? a=some {cls:=.none,data:=.fields ps}
 | .met f x=>h.get? a=some (PySem.W.methodObj (.ref f) (.ref x))
 | .ext φ=>φ h/\(∃o,h.get? a=some o)/\∀h1 h2:Heap,φ h1->(∀o,h1.get? a=some o->h2.get? a=some o)->φ h2
def jh(H:Hp)(h:Heap):Prop:=∀a o,H a=some o->bK P w H h a o
end
section
variable {P:L8}{w:Mb}{H H':Hp}{h h':Heap}{a:Addr}{o:HO}
theorem bK.lt(x:bK P w H h a o):a<h.objs.size:=by
 cases o with
 |lst xs=>obtain⟨_,_,_,_,e⟩:=x;exact Lq e
 |tup xs=>obtain⟨_,_,_,p⟩:=x;exact p.lt
 |dK kvs=>obtain⟨_,_,_,_,o,_,_,e,_⟩:=x;exact Lq e
 |dT kvs=>obtain⟨_,_,_,_,o,_,_,e,_⟩:=x;exact Lq e
 |set S n=>obtain⟨o,_,_,_,e,_⟩:=x;exact Lq e
 |ins C dx fs=>obtain⟨_,_,_,e,_⟩:=x;exact Lq e
 |own y=>obtain⟨_,e⟩:=x;exact Lq e
 |xd fs=>obtain⟨_,⟨_,_,_,e,_⟩,_⟩:=x;exact Lq e
 |rng lo hi=>obtain⟨_,_,_,e⟩:=x;exact Lq e
 |frz ob u=>obtain⟨e,_⟩:=x;exact Lq e
 |tbl ps=>exact Lq (show h.get? a=some _ from x)
 |met f y=>exact Lq (show h.get? a=some _ from x)
 |ext φ=>obtain⟨_,⟨_,e⟩,_⟩:=x;exact Lq e
theorem Paired.mapP{α β:Type}{F G:α->β->Prop}:∀{l₁:List α} {l₂:List β},Paired F l₁ l₂->(∀a b,F a b->G a b)->Paired G l₁ l₂
 |_,_,.nil,_=>.nil
 |_,_,.cons r t,f=>.cons (f _ _ r) (Paired.mapP t f)
theorem bK.stay(x:bK P w H h a o)(k:∀b u,(b=a\/H b=some (.own a))->h.get? b=some u->h'.get? b=some u)
  (ho:∀b,H b=some (.own a)->H' b=some (.own a)) (ht:∀b xs,H b=some (.tup xs)->H' b=some (.tup xs)):bK P w H' h' a o:=by
 induction o with
 |lst xs=>obtain⟨z,l,n,r,e⟩:=x;exact⟨z,l,n,r,k _ _ (.inl rfl) e⟩
 |tup xs=>obtain⟨z,l,r,g,e,c⟩:=x;exact⟨z,l,r,g,k _ _ (.inl rfl) e,c⟩
 |dK kvs=>obtain⟨z,y,vs,r,g,i,j,e,c⟩:=x;exact⟨z,y,vs,r,g,i,j,k _ _ (.inl rfl) e,c⟩
 |dT kvs=>
  obtain⟨z,y,xs,r,g,i,j,e,c⟩:=x;exact⟨z,y,xs,Paired.mapP r λp q z=>⟨z.1,ht _ _ z.2.1,z.2.2⟩,g,i,j,k _ _ (.inl rfl) e,c⟩
 |set S n=>obtain⟨g,i,j,t,e,c⟩:=x;exact⟨g,i,j,t,k _ _ (.inl rfl) e,c⟩
 |ins C dx fs=>
  obtain⟨d,z,G,e,B,⟨m,i,j,I,c⟩,r⟩:=x;exact⟨ho _ d,z,G,k _ _ (.inl rfl) e,B,⟨m,i,j,k _ _ (.inr d) I,c⟩,r⟩
 |own y=>obtain⟨g,e⟩:=x;exact⟨g,k _ _ (.inl rfl) e⟩
 |xd fs=>obtain⟨B,⟨m,i,j,e,c⟩,r⟩:=x;exact⟨B,⟨m,i,j,k _ _ (.inl rfl) e,c⟩,r⟩
 |rng lo hi=>obtain⟨t,u,v,e⟩:=x;exact⟨t,u,v,k _ _ (.inl rfl) e⟩
 |frz g u ih=>obtain⟨e,q⟩:=x;exact⟨k _ _ (.inl rfl) e,ih q⟩
 |tbl ps=>
  have e:h.get? a=some {cls:=.none,data:=.fields ps}:=x;show h'.get? a=some {cls:=.none,data:=.fields ps};exact k a _ (.inl rfl) e
 |met f y=>
  have e:h.get? a=some (PySem.W.methodObj (.ref f) (.ref y)):=x;show h'.get? a=some (PySem.W.methodObj (.ref f) (.ref y));exact k a _ (.inl rfl) e
 |ext φ=>obtain⟨p,⟨o,e⟩,D⟩:=x;exact⟨D _ _ p λo q=>k _ _ (.inl rfl) q,⟨o,k _ _ (.inl rfl) e⟩,D⟩
theorem jh.lt(x:jh P w H h)(e:H a=some o):a<h.objs.size:=(x a o e).lt
theorem jh.fresh(x:jh P w H h)(e:h.objs.size<=a):H a=none:=by
 cases q:H a with
 |none=>rfl
 |some u=>exact q0Q (Li (x.lt q) e) (Lw _)
theorem jh.kept(x:jh P w H h)(k:∀b u,h.get? b=some u->h'.get? b=some u):jh P w H h':=λa o e=>
 (x a o e).stay (λb u _ q=>k b u q) (λ_ q=>q) λ_ _ q=>q
theorem jh.laid(x:jh P w H h)(k:∀b u,h.get? b=some u->h'.get? b=some u)(hp:h.objs.size<=a)(new:bK P w (aG H a o) h' a o):jh P w (aG H a o) h':=λb u e=>by
 have hn:=x.fresh hp
 by_cases hb:b=a
 ·subst hb;rw[af]at e;cases e;exact new
 ·rw[aq hb]at e
  exact(x b u e).stay (λc v _ q=>k c v q) (λc q=>by rw[aq (az q hn)];exact q) λc xs q=>by rw[aq (az q hn)];exact q
end
def Rd(H:Hp)(a:Addr)(u:HO):Prop:=H a=some u\/∃o,H a=some (.frz o u)
theorem Rd.ok(r:Rd H a u)(x:jh P w H h):bK P w H h a u:=by
 rcases r with r | ⟨o,r⟩
 ·exact x a u r
 ·obtain⟨_,q⟩:=x a _ r
  exact q
def GI:Option HO->Prop
 |some (.lst _)=>True
 |some (.dK _)=>True
 |some (.dT _)=>True
 |some (.set _ _)=>True
 |some (.ins _ _ _)=>True
 |some (.ext _)=>True
 |_=>False
section
variable {P:L8}{w:Mb}{H:Hp}{h h':Heap}{x e:Addr}{o':HO}
theorem jh.write(ok:jh P w H h)(mu:GI (H x))(he:e=x\/H e=some (.own x))(k:∀b u,b≠e->h.get? b=some u->h'.get? b=some u)(heo:∃u,h'.get? e=some u)
  (new:bK P w (aG H x o') h' x o'):jh P w (aG H x o') h':=λb u q=>by
 have nown:∀c y,H c=some (.own y)->c≠x:=λc y r z=>by subst z;rw[r]at mu;exact mu
 have ntup:∀c xs,H c=some (.tup xs)->c≠x:=λc xs r z=>by subst z;rw[r]at mu;exact mu
 by_cases hb:b=x
 ·subst hb;rw[af]at q;cases q;exact new
 ·rw[aq hb]at q
  by_cases hbe:b=e
  ·have q':H b=some (.own x):=by
    rcases he with z | z
    ·exact q0Q (hbe.trans z) hb
    ·rw[hbe];exact z
   rw[q]at q';cases q'
   obtain⟨v,a⟩:=heo;exact⟨v,by rw[hbe];exact a⟩
  ·refine(ok b u q).stay (λc v hc r=>k c v ?_ r) (λc r=>by rw[aq (nown c b r)];exact r) λc xs r=>by rw[aq (ntup c xs r)];exact r
   rcases hc with rfl | hc
   ·exact hbe
   ·rintro rfl
    rcases he with z | z
    ·exact nown c b hc z
    ·rw[hc]at z;cases z;exact hb rfl
end
structure Un(fs ex:L5)(H H':Hp)(h h':Heap):Prop where
 keep:∀b o,h.get? b=some o->H b=none->b∉fs->b∉ex->h'.get? b=some o
 slot:∀b o,h.get? b=some o->H b=none->b∈fs->b∉ex->∃sl,h'.get? b=some {o with slots:=sl}
 free:∀b o,h.get? b=some o->H b=none->b∉ex->H' b=none
 there:∀b o,h.get? b=some o->b∉ex->∃o',h'.get? b=some o'
 tups:∀b xs,H b=some (.tup xs)->H' b=some (.tup xs)
 frzs:∀b o u,H b=some (.frz o u)->H' b=some (.frz o u)
 tbls:∀b ps,H b=some (.tbl ps)->∃more,H' b=some (.tbl (ps++more))
section
variable {fs fs' ex ex':L5}{H H1 H2:Hp}{h h1 h2 h':Heap}{a x e:Addr}{o:HO}
theorem Un.any(u:Un fs ex H H1 h h1){b:Addr}{ob:Obj}(q:h.get? b=some ob)(n:H b=none)(hx:b∉ex):∃sl,h1.get? b=some {ob with slots:=sl}:=by
 by_cases a:b∈fs
 ·exact u.slot b ob q n a hx
 ·exact⟨ob.slots,u.keep b ob q n a hx⟩
theorem Un.kept(k:∀b u,h.get? b=some u->h'.get? b=some u):Un fs ex H H h h':=
 ⟨λb ob q _ _ _=>k b ob q,λb ob q _ _ _=>⟨ob.slots,k b ob q⟩,λ_ _ _ n _=>n,λb ob q _=>⟨ob,k b ob q⟩,λ_ _ q=>q,λ_ _ _ q=>q,λ_ ps q=>⟨#[],by rw[q];simp⟩⟩
theorem Un.refl:Un fs ex H H h h:=Un.kept λ_ _ q=>q
theorem Un.laid(k:∀b u,h.get? b=some u->h'.get? b=some u)(hp:h.objs.size<=a)(hn:H a=none):Un fs ex H (aG H a o) h h' where
 keep:=λb u q _ _ _=>k b u q
 slot:=λb u q _ _ _=>⟨u.slots,k b u q⟩
 free:=λb u q n _=>by rw[aq (Lj (Li (Lq q) hp))];exact n
 there:=λb u q _=>⟨u,k b u q⟩
 tups:=λb xs q=>by rw[aq (az q hn)];exact q
 frzs:=λb u xs q=>by rw[aq (az q hn)];exact q
 tbls:=λb ps q=>⟨#[],by rw[aq (az q hn),q];simp⟩
theorem Un.write(mu:GI (H x))(he:e=x\/H e=some (.own x))(k:∀b u,b≠e->h.get? b=some u->h'.get? b=some u)(heo:∃u,h'.get? e=some u):Un fs ex H (aG H x o) h h':=by
 have d:∀b,H b=none->b≠x:=λb n z=>by subst z;rw[n]at mu;exact mu
 have g:∀b,H b=none->b≠e:=λb n z=>by
  subst z;rcases he with r | r
  ·exact d b n r
  ·rw[n]at r;cases r
 have c:∀b u,H b=some u->¬ GI (some u)->b≠x:=λb u q j z=>by subst z;rw[q]at mu;exact j mu
 refine⟨λb u q n _ _=>k b u (g b n) q,λb u q n _ _=>⟨u.slots,k b u (g b n) q⟩,λb u q n _=>by rw[aq (d b n)];exact n,λb u q _=>?_,
  λb i q=>by rw[aq (c b _ q λz=>z)];exact q,λb u i q=>by rw[aq (c b _ q λz=>z)];exact q,λb ps q=>⟨#[],by rw[aq (c b _ q λz=>z),q];simp⟩⟩
 by_cases a:b=e
 ·subst a;exact heo
 ·exact⟨u,k b u a q⟩
end
def G_(h:Heap)(H:Hp):List Addr:=(List.range h.objs.size).filter λa=>(H a).isSome
def tT(h:Heap)(H:Hp):Heap:=PySem.W.hideAll h (G_ h H)
theorem zK(h:Heap)(H:Hp):(tT h H).objs.size=h.objs.size:=PySem.W.hideAll_size _ _
theorem Cp{h:Heap}{H:Hp}{b:Addr}{o:Obj}(e:h.get? b=some o)(n:H b=none):(tT h H).get? b=some o:=
 PySem.W.hideAll_get _ e λhm=>by
  have q:(H b).isSome=true:=(List.mem_filter.mp hm).2;rw[n]at q;simp at q
theorem El{b:Addr}{o:Obj}(e:(tT h H).get? b=some o):h.get? b=some o/\H b=none:=by
 have a:h.get? b=some o:=PySem.W.of_hideAll (G_ h H) e;refine⟨a,?_⟩;cases q:H b with
 |none=>rfl
 |some x=>
  have c:b∈G_ h H:=List.mem_filter.mpr ⟨List.mem_range.mpr (Lq a),by simp[q]⟩;have z:(tT h H).get? b=none:=PySem.W.hideAll_none (G_ h H) c;rw[z]at e;cases e
def Dh(g h:Heap)(L:Addr):List (Addr×Obj):=(List.range h.objs.size).filterMap λa=>if a=L\/(g.get? a).isSome=true then none else(h.get? a).map λo=>(a,o)
def bx(g h:Heap)(L d:Addr):List (Addr×Obj):=(Dh g h L).filter λp=>decide (p.1≠d)
structure Mod(K:LW)(mg:L6)(base:Heap):Prop where
 kin:K.In base
 glob:base.Ns mainGlobals mg
 blt:∃mb,base.Ns builtinsNs mb/\∀x:Str,x≠"__name__"->mb x=bootBuiltins x
 nolimit:base.NoLimit
structure Cx where
 prog:Program
 w:World
 K:PySem.W.Frag
 mg:Str->Option Value
 base:Heap
 A:Around
 N:List Str
 s₀:Shared
 H₀:Hp
 env:Env
 outer:List Env
 stack:List Env
 ex:List Addr
 fn:Str->Bool
 calm:Bool
 pn:List (Addr×Obj)
 xe:Value->Shared->Prop
def kU(l:List Env):List Addr:=l.filterMap (·.frame)
abbrev Cx.fs(X:Cx):List Addr:=kU X.outer
def Hg(sc:Scope)(x:Str):Prop:=sc.names.lookup x=some .local\/sc.names.lookup x=some .cell\/sc.names.lookup x=some .free
def Loc(sc:Scope)(x:Str):Prop:=sc.names.lookup x=some .local\/sc.names.lookup x=some .cell
def HG(env:Env)(h:Heap)(m:L6)(x:Str)(u:Value):Prop:=
 (env.kindOf x=some .local/\m x=some u)\/((env.kindOf x=some .cell\/env.kindOf x=some .free)/\∃c,env.cells.lookup x=some c/\h.IsCell c (some u))
structure Cx.Ok(X:Cx):Prop where
 mod:Mod X.K X.mg X.base
 kind:X.env.scope.kind=.function
 glob:X.env.globals=mainGlobals
 blt:X.env.builtins=builtinsNs
 above:X.s₀.heap.objs.size<=X.env.locals
 inj:∀x y c,X.env.cells.lookup x=some c->X.env.cells.lookup y=some c->x=y
 has:∀x,(X.env.kindOf x=some .cell\/X.env.kindOf x=some .free)->∃c,X.env.cells.lookup x=some c
 cab:∀x c,X.fn x=true->X.env.cells.lookup x=some c->X.s₀.heap.objs.size<=c
 hd:X.calm=true->X.A.handled=none
 frames:X.A.frames=some X.stack
 stk:X.stack=X.outer\/(X.stack=X.env::X.outer/\X.env.frame=some X.env.locals)
 exf:∀b∈X.ex,b≠X.env.locals/\∀x c,X.env.cells.lookup x=some c->c≠b
 bs:∀b o,X.base.get? b=some o->X.s₀.heap.get? b=some o/\X.H₀ b=none
 bsz:X.base.objs.size<=X.s₀.heap.objs.size
 noex:∀b o,X.base.get? b=some o->b∉X.ex
 exfs:∀b∈X.ex,b∉X.fs
 funs:X.s₀.heap.FunFrames X.base X.outer
 frf:∀b∈X.fs,X.H₀ b=none
structure Inv(X:Cx)(pins:LX)(σ:List (Option V))(H:Hp)(s:LZ):Prop where
 ok:X.Ok
 os:s.os=X.s₀.os
 bare:AllBare s.gens
 base:Un X.fs X.ex X.H₀ H X.s₀.heap s.heap
 loc:∃m,s.heap.Ns X.env.locals m/\∀(i:Nat) (x:Str) (v:V),X.N[i]?=some x->σ[i]?=some (some v)->Hg X.env.scope x->∃u,bh v u/\HG X.env s.heap m x u
 cell:∀x c,X.env.cells.lookup x=some c->∃v,s.heap.IsCell c v
 free:H X.env.locals=none
 freeC:∀x c,X.env.cells.lookup x=some c->H c=none
 pin:∀p∈X.pn++pins,s.heap.get? p.1=some p.2/\H p.1=none/\p.1≠X.env.locals/\p.1∉X.fs/\∀v,p.2.data≠.cell v
 hok:jh X.prog X.w H s.heap
 len:σ.length=X.N.length
section
variable {X:Cx}{pins:LX}{σ:List (Option V)}{H H':Hp}{s:LZ}{h':Heap}
theorem Cx.Ok.nofr(ok:X.Ok){b:Addr}{o:Obj}(e:X.base.get? b=some o):b∉X.fs:=λhb=>by
 have:=(ok.funs.mem hb).1;rw[e]at this;cases this
theorem Inv.bs(I:Inv X pins σ H s):∀b o,X.base.get? b=some o->s.heap.get? b=some o/\H b=none:=λb o e=>
 ⟨I.base.keep b o (I.ok.bs b o e).1 (I.ok.bs b o e).2 (I.ok.nofr e) (I.ok.noex b o e),I.base.free b o (I.ok.bs b o e).1 (I.ok.bs b o e).2 (I.ok.noex b o e)⟩
theorem Inv.bk(I:Inv X pins σ H s):∀b o,X.base.get? b=some o->s.heap.get? b=some o:=λb o e=>(I.bs b o e).1
theorem Inv.mod(I:Inv X pins σ H s):Mod X.K X.mg X.base:=I.ok.mod
theorem Inv.kIn(I:Inv X pins σ H s):X.K.In s.heap:=I.ok.mod.kin.keeps I.bk
theorem Inv.lt(I:Inv X pins σ H s):X.env.locals<s.heap.objs.size:=let ⟨_,hn,_⟩:=I.loc;hn.lt
theorem Inv.sz(I:Inv X pins σ H s):X.s₀.heap.objs.size<=s.heap.objs.size:=Lv I.ok.above (q0P I.lt)
theorem Inv.nofs(I:Inv X pins σ H s){a:Addr}(h:s.heap.objs.size<=a):a∉X.fs:=λhb=>by
 obtain⟨_,o,ho,_⟩:=I.ok.funs.mem hb;exact q0Q (Li (Lq ho) (Lv I.sz h)) (Lw _)
theorem Inv.cne(I:Inv X pins σ H s):∀x c,X.env.cells.lookup x=some c->c≠X.env.locals:=λx c e z=>by
 obtain⟨v,o,ho,hd⟩:=I.cell x c e;obtain⟨m,⟨o',es,ep,ho',hd',_⟩,_⟩:=I.loc;rw[z,ho']at ho;cases ho;rw[hd']at hd;cases hd
theorem Inv.funs(I:Inv X pins σ H s):s.heap.FunFrames X.base X.outer:=by
 have all:∀(l:List Env),(∀b∈kU l,b∈X.fs)->X.s₀.heap.FunFrames X.base l->s.heap.FunFrames X.base l:=by
  intro l
  induction l with
  |nil=>intro _ _;trivial
  |cons env r ih=>
   intro g k;obtain⟨m,⟨L,o,a,j,i,n⟩,hr⟩:=k;have d:L∈X.fs:=g L (by unfold kU;rw[q0U,a];exact q0B);obtain⟨sl,e⟩:=I.base.slot L o i (I.ok.frf L d) d λz=>I.ok.exfs L z d;exact⟨m,⟨L,_,a,j,e,n⟩,ih (λb c=>g b (by unfold kU;rw[q0U,a];exact Lg _ c)) hr⟩
 exact all X.outer (λ_ c=>c) I.ok.funs
theorem Inv.stack(I:Inv X pins σ H s):s.heap.FunFrames X.base X.stack:=by
 rcases I.ok.stk with e | ⟨e,b⟩
 ·rw[e];exact I.funs
 ·rw[e]
  obtain⟨m,a,_⟩:=I.loc;refine .cons (by rw[I.ok.kind];decide) b a ?_ I.funs;exact Heap.get?_none_of_le (Lv I.ok.bsz I.ok.above)
theorem Inv.stkSub(I:Inv X pins σ H s):∀b∈kU X.stack,b∈X.env.locals::X.fs:=λb hb=>by
 rcases I.ok.stk with e | ⟨e,hf⟩
 ·rw[e]at hb;exact Lg _ hb
 ·rw[e]at hb
  unfold kU at hb;rw[q0U,hf]at hb;exact hb
theorem Inv.stkFree(I:Inv X pins σ H s):∀b∈kU X.stack,H b=none:=λb hb=>by
 rcases Lf.mp (I.stkSub b hb) with e | hb
 ·rw[e];exact I.free
 ·obtain⟨_,o,ho,_⟩:=I.ok.funs.mem hb
  exact I.base.free b o ho (I.ok.frf b hb) λz=>I.ok.exfs b z hb
theorem Inv.step{t':Nat}{d':Drawn}{ch:L5}(I:Inv X pins σ H s)
  (hch:∀b∈ch,(b∈X.ex\/X.s₀.heap.objs.size<=b)/\b≠X.env.locals/\(∀x c,X.env.cells.lookup x=some c->c≠b)/\∀p∈X.pn++pins,p.1≠b)
  (keep:∀b o,b≠X.env.locals->b∉X.fs->b∉ch->s.heap.get? b=some o->H b=none->h'.get? b=some o)
  (slot:∀b o,b≠X.env.locals->b∈X.fs->b∉ch->s.heap.get? b=some o->H b=none->∃sl,h'.get? b=some {o with slots:=sl}) (free:∀b o,b∉ch->s.heap.get? b=some o->H b=none->H' b=none)
  (there:∀b o,b∉ch->s.heap.get? b=some o->∃o',h'.get? b=some o')
  (tups:∀b xs,H b=some (.tup xs)->H' b=some (.tup xs)) (frzs:∀b o u,H b=some (.frz o u)->H' b=some (.frz o u)) (tbls:∀b ps,H b=some (.tbl ps)->∃more,H' b=some (.tbl (ps++more)))
  (ns:∀m,s.heap.Ns X.env.locals m->h'.Ns X.env.locals m) (hok:jh X.prog X.w H' h') (hg:AllBare g') :
  Inv X pins σ H' {s with heap:=h',gens:=g',drawn:=d',toks:=t' }:=by
 have D:∀b o,X.s₀.heap.get? b=some o->b≠X.env.locals:=λb o e=>Lj (Li (Lq e) I.ok.above);have w:∀b o,X.s₀.heap.get? b=some o->b∉X.ex->b∉ch:=λb o e a B=>by
  rcases(hch b B).1 with z | z
  ·exact a z
  ·exact q0Q (Li (Lq e) z) (Lw _)
 have j:∀x c,X.env.cells.lookup x=some c->∀v,s.heap.IsCell c v->h'.IsCell c v:=λx c e v ⟨o,C,L⟩=>by
  have g:c∉ch:=λz=>(hch c z).2.2.1 x c e rfl
  by_cases S:c∈X.fs
  ·obtain⟨sl,q⟩:=slot c o (I.cne x c e) S g C (I.freeC x c e)
   exact⟨_,q,L⟩
  ·exact⟨o,keep c o (I.cne x c e) S g C (I.freeC x c e),L⟩
 refine⟨I.ok,I.os,hg,⟨λb o e n B a=>?_,λb o e n B a=>?_,λb o e n a=>?_,λb o e a=>?_,λb xs e=>tups b xs (I.base.tups b xs e),λb o xs e=>frzs b o xs (I.base.frzs b o xs e),λb ps e=>?_⟩,?_,λx c e=>?_,?_,λx c e=>?_,λp R=>?_,hok,I.len⟩
 ·exact keep b o (D b o e) B (w b o e a) (I.base.keep b o e n B a) (I.base.free b o e n a)
 ·obtain⟨sl,y⟩:=I.base.slot b o e n B a
  obtain⟨J,G⟩:=slot b _ (D b o e) B (w b o e a) y (I.base.free b o e n a);exact⟨J,G⟩
 ·obtain⟨o',y⟩:=I.base.there b o e a
  exact free b o' (w b o e a) y (I.base.free b o e n a)
 ·obtain⟨o',y⟩:=I.base.there b o e a
  exact there b o' (w b o e a) y
 ·obtain⟨m1,y⟩:=I.base.tbls b ps e
  obtain⟨T,G⟩:=tbls b _ y;exact⟨m1++T,by rw[G,Array.append_assoc]⟩
 ·obtain⟨m,U,Y⟩:=I.loc
  refine⟨m,ns m U,λi x v y G Z=>?_⟩;obtain⟨u,r,l⟩:=Y i x v y G Z;refine⟨u,r,?_⟩;rcases l with l | ⟨k,c,e,z⟩
  ·exact .inl l
  ·exact .inr ⟨k,c,e,j x c e _ z⟩
 ·obtain⟨v,z⟩:=I.cell x c e
  exact⟨v,j x c e v z⟩
 ·obtain⟨m,⟨o,_,_,C,_⟩,_⟩:=I.loc
  exact free _ o (λz=>(hch _ z).2.1 rfl) C I.free
 ·obtain⟨v,o,C,L⟩:=I.cell x c e
  exact free c o (λz=>(hch c z).2.2.1 x c e rfl) C (I.freeC x c e)
 ·obtain⟨e,n,O,M,d⟩:=I.pin p R
  have g:p.1∉ch:=λz=>(hch p.1 z).2.2.2 p R rfl;exact⟨keep p.1 p.2 O M g e n,free p.1 p.2 g e n,O,M,d⟩
theorem Inv.un{t':Nat}(I:Inv X pins σ H s)(u:Un X.fs [] H H' s.heap h')(hok:jh X.prog X.w H' h'):Inv X pins σ H' {s with heap:=h',toks:=t' }:=by
 obtain⟨m,⟨o,es,ep,i,r⟩,_⟩:=id I.loc;obtain⟨sl,l⟩:=u.any i I.free (by simp);exact I.step (g':=s.gens) (d':=s.drawn) (ch:=[]) (λ_ z=>nomatch z) (λb o _ c _ e n=>u.keep b o e n c (by simp)) (λb o _ c _ e n=>u.slot b o e n c (by simp)) (λb o _ e n=>u.free b o e n (by simp)) (λb o _ e=>u.there b o e (by simp)) u.tups u.frzs u.tbls (λm' k=>by
  obtain⟨o',d,g,a,j⟩:=k;rw[i]at a;cases a
  exact⟨_,d,g,l,j⟩) hok I.bare
theorem Inv.call{t':Nat}{d':Drawn}{ch:L5}(I:Inv X pins σ H s)(u:Un (kU X.stack) ch H H' s.heap h')(hok:jh X.prog X.w H' h')(hg:AllBare g')
  (hch:∀b∈ch,(b∈X.ex\/X.s₀.heap.objs.size<=b)/\b≠X.env.locals/\(∀x c,X.env.cells.lookup x=some c->c≠b)/\∀p∈X.pn++pins,p.1≠b) :
  Inv X pins σ H' {s with heap:=h',gens:=g',drawn:=d',toks:=t' }:=by
 obtain⟨m,⟨o,es,ep,k,r⟩,_⟩:=id I.loc;obtain⟨sl,g⟩:=u.any k I.free λz=>(hch _ z).2.1 rfl;exact I.step (ch:=ch) hch (λb o g v a e n=>u.keep b o e n (λz=>(Lf.mp (I.stkSub b z)).elim g v) a) (λb o _ _ a e n=>u.any e n a) (λb o a e n=>u.free b o e n a) (λb o a e=>u.there b o e a) u.tups u.frzs u.tbls (λm' q=>by
  obtain⟨o',i,j,d,l⟩:=q;rw[k]at d;cases d
  exact⟨_,i,j,g,l⟩) hok hg
theorem Inv.turned{t':Nat}{it:Addr}(I:Inv X pins σ H s)(k:∀b o,b≠it->s.heap.get? b=some o->h'.get? b=some o)(hn:H it=none)(hL:it≠X.env.locals)
  (h1:it∈X.ex\/X.s₀.heap.objs.size<=it) (h2:∀x c,X.env.cells.lookup x=some c->c≠it) (h3:∀p∈X.pn++pins,p.1≠it):Inv X pins σ H {s with heap:=h',toks:=t' }:=by
 have d:∀b u,H b=some u->b≠it:=λb u e z=>by rw[z,hn]at e;cases e
 refine I.step (g':=s.gens) (d':=s.drawn) (ch:=[it]) (λb j=>?_) (λb o _ _ a e _=>k b o (λz=>a (by simp[z])) e) (λb o _ _ a e _=>⟨o.slots,k b o (λz=>a (by simp[z])) e⟩) (λ_ _ _ _ n=>n)
  (λb o a e=>⟨o,k b o (λz=>a (by simp[z])) e⟩) (λ_ _ e=>e) (λ_ _ _ e=>e) (λb ps e=>⟨#[],by rw[e];simp⟩) (λm i=>?_) (λb u e=>?_) I.bare
 ·have e:b=it:=by simpa using j
  subst e;exact⟨h1,hL,h2,h3⟩
 ·obtain⟨o,l,w,g,r⟩:=i
  exact⟨o,l,w,k _ o (Ne.symm hL) g,r⟩
 ·refine(I.hok b u e).stay (λc v a q=>k c v ?_ q) (λ_ q=>q) λ_ _ q=>q
  rcases a with z | z
  ·rw[z];exact d b u e
  ·exact d c _ z
theorem Inv.tok(I:Inv X pins σ H s)(t:Nat):Inv X pins σ H {s with toks:=t}:=I.un (h':=s.heap) (t':=t) Un.refl I.hok
theorem Inv.kept{t':Nat}(I:Inv X pins σ H s)(k:∀b u,s.heap.get? b=some u->h'.get? b=some u):Inv X pins σ H {s with heap:=h',toks:=t' }:=I.un (Un.kept k) (I.hok.kept k)
theorem Inv.laid{a:Addr}{t':Nat}(I:Inv X pins σ H s)(k:∀b u,s.heap.get? b=some u->h'.get? b=some u)(hp:s.heap.objs.size<=a)(new:bK X.prog X.w (aG H a o) h' a o) :
  Inv X pins σ (aG H a o) {s with heap:=h',toks:=t' }:=I.un (Un.laid k hp (I.hok.fresh hp)) (I.hok.laid k hp new)
theorem Inv.write{e:Addr}{t':Nat}(I:Inv X pins σ H s)(mu:GI (H x))(he:e=x\/H e=some (.own x))(k:∀b u,b≠e->s.heap.get? b=some u->h'.get? b=some u)(heo:∃u,h'.get? e=some u)
  (new:bK X.prog X.w (aG H x o) h' x o):Inv X pins σ (aG H x o) {s with heap:=h',toks:=t' }:=I.un (Un.write mu he k heo) (I.hok.write mu he k heo new)
theorem Inv.pins_of{pins':LX}(I:Inv X pins σ H s)(h:∀p∈pins',s.heap.get? p.1=some p.2/\H p.1=none/\p.1≠X.env.locals/\p.1∉X.fs/\∀v,p.2.data≠.cell v):Inv X pins' σ H s:=
 ⟨I.ok,I.os,I.bare,I.base,I.loc,I.cell,I.free,I.freeC,λp hp=>(Ld.mp hp).elim (λz=>I.pin p (q0D _ z)) (h p),I.hok,I.len⟩
theorem o0{N:L9}(hN:N.Nodup){i j:Nat}{x:Str}(a:N[i]?=some x)(b:N[j]?=some x):i=j:=by
 obtain⟨h1,d⟩:=K1.mp a;obtain⟨h2,c⟩:=K1.mp b;exact(List.getElem_inj hN).mp (d.trans c.symm)
theorem q_{i:Nat}{x:Str}{Q:Unit->Shared->Prop}(I:Inv X pins σ H s)(hN:X.N.Nodup)(hi:X.N[i]?=some x)(hx:Loc X.env.scope x)(r:bh v u)
  (h:∀s',Inv X pins (σ.set i (some v)) H s'->(∃a,Heap.SameBut a s.heap s'.heap/\(a=X.env.locals\/X.env.cells.lookup x=some a))->Q () s') (hf:autoParam (X.fn x=true\/X.env.scope.names.lookup x=some .local) zz3._auto_1):wpAny M A (storeName X.env x u) Q E s:=by
 obtain⟨m,hn,hl⟩:=id I.loc;have U:(X.env.scope.kind==.class||(X.env.scope.kind==.module&&X.env.locals != X.env.globals))=false:=by rw[I.ok.kind];rfl
 have T:i<σ.length:=by rw[I.len];exact(K1.mp hi).1
 have cne:=I.cne;have l:∀{a:Addr} {O:Heap},(∃o,s.heap.get? a=some o/\H a=none)->Heap.SameBut a s.heap O->jh X.prog X.w H O:=fun{a O} ha g b ob e=>by
  obtain⟨_,_,C⟩:=ha;refine(I.hok b ob e).stay (λc w' hc q=>(g.2 c ?_).trans q) (λ_ q=>q) λ_ _ q=>q;rintro rfl;rcases hc with rfl | hc
  ·rw[C]at e;cases e
  ·rw[C]at hc;cases hc
 rcases hx with hk | hk
 ·refine wpAny_storeName_local hk hn (λO a1 g=>?_) U
  obtain⟨oL,_,_,a0,_⟩:=id hn;refine h _ ⟨I.ok,I.os,I.bare,⟨λb o e n L hx=>?_,λb o e n L hx=>?_,I.base.free,λb o e hx=>?_,I.base.tups,I.base.frzs,I.base.tbls⟩,⟨_,a1,λj y v' B D e3=>?_⟩,λy c e=>?_,I.free,I.freeC,λp hp=>?_,l ⟨oL,a0,I.free⟩ g,by simpa using I.len⟩ ⟨_,g,.inl rfl⟩
  ·exact(g.2 b (Lj (Li (Lq e) I.ok.above))).trans (I.base.keep b o e n L hx)
  ·obtain⟨sl,B⟩:=I.base.slot b o e n L hx
   exact⟨sl,(g.2 b (Lj (Li (Lq e) I.ok.above))).trans B⟩
  ·obtain⟨o',B⟩:=I.base.there b o e hx
   exact⟨o',(g.2 b (Lj (Li (Lq e) I.ok.above))).trans B⟩
  ·by_cases G:j=i
   ·subst G
    rw[hi]at B;cases B
    rw[LA T]at D;cases D;exact⟨u,r,.inl ⟨hk,by simp⟩⟩
   ·rw[List.getElem?_set_ne (Ne.symm G)]at D
    obtain⟨u',r',q⟩:=hl j y v' B D e3;refine⟨u',r',?_⟩;rcases q with⟨k,e⟩ | ⟨k,c,e,z⟩
    ·refine .inl ⟨k,?_⟩
     have:y≠x:=λe=>G (o0 hN B (e▸hi));simp[this,e]
    ·exact .inr ⟨k,c,e,z.sameBut g (cne y c e)⟩
  ·obtain⟨w',z⟩:=I.cell y c e
   exact⟨w',z.sameBut g (cne y c e)⟩
  ·obtain⟨e,n,ne,nf,d⟩:=I.pin p hp
   exact⟨(g.2 p.1 ne).trans e,n,ne,nf,d⟩
 ·have J:X.fn x=true:=by
   rcases hf with z | z
   ·exact z
   ·rw[z]at hk;cases hk
  obtain⟨c,hc⟩:=I.ok.has x (.inl hk);obtain⟨w',z⟩:=I.cell x c hc;refine wpAny_storeName_cell I.ok.kind hk hc z (λO Z g=>?_);obtain⟨oc,S,R⟩:=id z;refine h {s with heap:=O } ⟨I.ok,I.os,I.bare,⟨λb o e n L hx=>?_,λb o e n L hx=>?_,I.base.free,λb o e hx=>?_,I.base.tups,I.base.frzs,I.base.tbls⟩,⟨m,hn.sameBut g (Ne.symm (cne x c hc)),λj y v' B D e3=>?_⟩,λy c' e=>?_,I.free,I.freeC,λp hp=>?_,l ⟨oc,S,I.freeC x c hc⟩ g,by simpa using I.len⟩ ⟨c,g,.inr hc⟩
  ·exact(g.2 b (Lj (Li (Lq e) (I.ok.cab x c J hc)))).trans (I.base.keep b o e n L hx)
  ·obtain⟨sl,B⟩:=I.base.slot b o e n L hx
   exact⟨sl,(g.2 b (Lj (Li (Lq e) (I.ok.cab x c J hc)))).trans B⟩
  ·obtain⟨o',B⟩:=I.base.there b o e hx
   exact⟨o',(g.2 b (Lj (Li (Lq e) (I.ok.cab x c J hc)))).trans B⟩
  ·by_cases G:j=i
   ·subst G
    rw[hi]at B;cases B
    rw[LA T]at D;cases D;exact⟨u,r,.inr ⟨.inl hk,c,hc,Z⟩⟩
   ·rw[List.getElem?_set_ne (Ne.symm G)]at D
    obtain⟨u',r',q⟩:=hl j y v' B D e3;refine⟨u',r',?_⟩;rcases q with q | ⟨k,c',e,z'⟩
    ·exact .inl q
    ·refine .inr ⟨k,c',e,z'.sameBut g ?_⟩
     rintro rfl;exact G (o0 hN B (I.ok.inj _ _ _ e hc▸hi))
  ·by_cases Y:c'=c
   ·subst Y;exact⟨_,Z⟩
   ·obtain⟨w2,z2⟩:=I.cell y c' e
    exact⟨w2,z2.sameBut g Y⟩
  ·obtain⟨e,n,ne,nf,d⟩:=I.pin p hp
   refine⟨(g.2 p.1 ?_).trans e,n,ne,nf,d⟩;intro q;rw[q,S]at e;have q':oc=p.2:=q0S e;exact d w' (by rw[<- q'];exact R)
theorem kr{i:Nat}{x:Str}{Q:Unit->Shared->Prop}(I:Inv X pins σ H s)(hN:X.N.Nodup)(hi:X.N[i]?=some x)(hx:Loc X.env.scope x)(r:bh v u)
  (h:∀s',Inv X pins (σ.set i (some v)) H s'->Q () s') (hf:autoParam (X.fn x=true\/X.env.scope.names.lookup x=some .local) zz3._auto_1):wpAny M A (storeName X.env x u) Q E s:=
 q_ I hN hi hx r (λs' I' _=>h s' I') hf
theorem Inv.call'{s':LZ}{ch:L5}(I:Inv X pins σ H s)(ho:s'.os=s.os)(u:Un (kU X.stack) ch H H' s.heap s'.heap)(hok:jh X.prog X.w H' s'.heap)(hg:AllBare s'.gens)
  (hch:∀b∈ch,(b∈X.ex\/X.s₀.heap.objs.size<=b)/\b≠X.env.locals/\(∀x c,X.env.cells.lookup x=some c->c≠b)/\∀p∈X.pn++pins,p.1≠b):Inv X pins σ H' s':=by
 obtain⟨h',g',d',t',a⟩:=s';have e:a=s.os:=ho;subst e;exact I.call (g':=g') (t':=t') (d':=d') u hok hg hch
end
abbrev XK:=Value->Option Addr->Hp->Prop
abbrev St:=List (Option V)
abbrev VK:=V->Hp->Prop
abbrev TE:=St->Hp->VK->Prop
abbrev TT:=St->Hp->(Bool->Hp->Prop)->Prop
abbrev TA:=St->Hp->(List V->Hp->Prop)->Prop
structure fW where
 nx:St->Hp->Prop
 rt:VK
 bk:St->Hp->Prop:=λ_ _=>False
 ct:St->Hp->Prop:=λ_ _=>False
abbrev TS:=fW->St->Hp->Prop
inductive EP(X:Cx)(pins:LX)(σ:St)(Q:VK)(u:Value)(s':LZ):Prop
 |mk (v:V) (H':Hp) (_:Inv X pins σ H' s') (_:bh v u) (_:Q v H')
inductive TP(X:Cx)(pins:LX)(σ:St)(Q:Bool->Hp->Prop)(b:Bool)(s':LZ):Prop
 |mk (H':Hp) (_:Inv X pins σ H' s') (_:Q b H')
inductive AP(X:Cx)(pins:LX)(σ:St)(Q:List V->Hp->Prop)(us:L4)(s':LZ):Prop
 |mk (vs:List V) (H':Hp) (_:Inv X pins σ H' s') (_:bc vs us) (_:Q vs H')
inductive SN(X:Cx)(pins:LX)(D:St->Hp->Prop)(s':LZ):Prop
 |mk (σ':St) (H':Hp) (_:Inv X pins σ' H' s') (_:D σ' H')
inductive SR(X:Cx)(pins:LX)(D:V->Hp->Prop)(u:Value)(s':LZ):Prop
 |mk (v:V) (σ':St) (H':Hp) (_:Inv X pins σ' H' s') (_:bh v u) (_:D v H')
def SP(X:Cx)(pins:LX)(D:fW)(f:Flow)(s':LZ):Prop:=
 match f with
 | .next=>SN X pins D.nx s'
 | .brk=>SN X pins D.bk s'
 | .cont=>SN X pins D.ct s'
 | .ret u=>SR X pins D.rt u s'
def PE(X:Cx)(e:Expr)(t:TE):Prop:=
 ∀(pins:LX) (s:LZ) (σ:St) (H:Hp) (Q:VK),Inv X pins σ H s->t σ H Q->wpAny (model X.prog X.w) X.A (eval e X.env) (EP X pins σ Q) X.xe s
def PT(X:Cx)(e:Expr)(t:TT):Prop:=
 ∀(pins:LX) (s:LZ) (σ:St) (H:Hp) (Q:Bool->Hp->Prop),Inv X pins σ H s->t σ H Q->wpAny (model X.prog X.w) X.A (isTrue e X.env (eval e X.env)) (TP X pins σ Q) X.xe s
def PW(X:Cx)(e:Expr)(t:TT):Prop:=
 ∀(whole:Sem Value) (pins:LX) (s:LZ) (σ:St) (H:Hp) (Q:Bool->Hp->Prop),Inv X pins σ H s->t σ H Q->wpAny (model X.prog X.w) X.A (isTrue e X.env whole) (TP X pins σ Q) X.xe s
theorem PW.pt{t:TT}(h:PW X e t):PT X e t:=h _
def PA(X:Cx)(es:Md)(t:TA):Prop:=
 ∀(pos:Pos) (pins:LX) (s:LZ) (σ:St) (H:Hp) (Q:List V->Hp->Prop),Inv X pins σ H s->t σ H Q->wpAny (model X.prog X.w) X.A (spliced (backTo pos (starEach es X.env))) (AP X pins σ Q) X.xe s
def PS(X:Cx)(st:Stmt)(t:TS):Prop:=
 ∀(pins:LX) (s:LZ) (σ:St) (H:Hp) (D:fW),Inv X pins σ H s->t D σ H->wpAny (model X.prog X.w) X.A (exec st X.env) (SP X pins D) X.xe s
def ux(X:Cx)(st:List Stmt)(t:TS):Prop:=
 ∀(pins:LX) (s:LZ) (σ:St) (H:Hp) (D:fW),Inv X pins σ H s->t D σ H->wpAny (model X.prog X.w) X.A (execs st X.env) (SP X pins D) X.xe s
theorem bT{α:Type}{t:Sem α}{Q Q':α->Shared->Prop}{s:LZ}(h:wpAny M A t Q E s)(hQ:∀a s,Q a s->Q' a s):wpAny M A t Q' E s:=q0X h hQ λ_ _ x=>x
section
variable {X:Cx}
def Ak(i:Nat):TE:=λσ H Q=>∃v,σ[i]?=some (some v)/\Q v H
def tC(v:V):TE:=λ_ H Q=>Q v H
theorem Ff{i:Nat}{x:Str}{pos:Pos}(hN:X.N[i]?=some x)(hv:Hg X.env.scope x)(hd:autoParam ((x==("__debug__":Str))=false) zz1._auto_1)(hcd:autoParam ((x==("__classdict__":Str))=false) zz1._auto_1):PE X (.Name x pos) (Ak i):=by
 intro b s σ H Q I h;obtain⟨v,e,h⟩:=h;obtain⟨m,g,k⟩:=I.loc;obtain⟨u,r,l⟩:=k i x v hN e hv;have fin:EP X b σ Q u s:=⟨v,H,I,r,h⟩;rcases l with⟨hk,j⟩ | ⟨hk,c,d,a⟩
 ·exact wpAny_Name (wpAny_loadName_local I.ok.kind hk g j fin) hd
 ·rcases hk with hk | hk
  ·exact wpAny_Name (wpAny_loadName_cell I.ok.kind hk d a fin) hd
  ·exact wpAny_Name (wpAny_loadName_free I.ok.kind hk d a fin hcd) hd
theorem aj{i j pos}:PE X (.Constant (.int i) j pos) (tC (.int i)):=λ_ _ _ H _ I h=>wpAny_Constant_int ⟨.int i,H,I.tok _,⟨_,rfl⟩,h⟩
theorem o9{b j pos}:PE X (.Constant (.bool b) j pos) (tC (.bl b)):=λ_ _ _ H _ I h=>Constant_bool ⟨.bl b,H,I,rfl,h⟩
theorem ow{j pos}:PE X (.Constant .none j pos) (tC .non):=λ_ _ _ H _ I h=>Constant_none ⟨.non,H,I,rfl,h⟩
theorem iE{x j pos}:PE X (.Constant (.str x) j pos) (tC (.str x)):=λ_ _ _ H _ I h=>Calls.Constant_str ⟨.str x,H,I.tok _,⟨_,rfl⟩,h⟩
def Gl(X:Cx)(x:Str):Prop:=X.env.kindOf x=some .globalImplicit
theorem g_{pins:LX}{σ:St}{u:Value}{pos:Pos}{Q:LV}(I:Inv X pins σ H s)(hg:Gl X x)(hm:X.mg x=some u)(h:Q u s)
  (hd:autoParam ((x==("__debug__":Str))=false) zz1._auto_1):wpAny (model X.prog X.w) X.A (eval (.Name x pos) X.env) Q E s:=
 Calls.Name_function_global I.ok.kind hg (Calls.loadGlobal_global (by rw[I.ok.glob];exact I.mod.glob.keeps I.bk) hm h) hd
theorem fo{pins:LX}{σ:St}{u:Value}{pos:Pos}{Q:LV}(I:Inv X pins σ H s)(hg:Gl X x)(hm:X.mg x=none)(hv:bootBuiltins x=some u)(h:Q u s)
  (hn:autoParam (x≠"__name__") zz1._auto_1) (hd:autoParam ((x==("__debug__":Str))=false) zz1._auto_1):wpAny (model X.prog X.w) X.A (eval (.Name x pos) X.env) Q E s:=by
 obtain⟨mb,h1,h2⟩:=I.mod.blt;exact Calls.Name_function_global I.ok.kind hg (Calls.loadGlobal_builtin (by rw[I.ok.glob];exact I.mod.glob.keeps I.bk) hm (by rw[I.ok.blt];exact h1.keeps I.bk) ((h2 x hn).trans hv) h) hd
theorem bZ{u:Value}{pos:Pos}(hg:Gl X x)(hm:X.mg x=some u)(r:bh v u)(hd:autoParam ((x==("__debug__":Str))=false) zz1._auto_1):PE X (.Name x pos) (tC v):=
 λ_ _ _ H _ I h=>g_ I hg hm ⟨v,H,I,r,h⟩ hd
theorem sv{u:Value}{pos:Pos}(hg:Gl X x)(hm:X.mg x=none)(hv:bootBuiltins x=some u)(r:bh v u)(hn:autoParam (x≠"__name__") zz1._auto_1)(hd:autoParam ((x==("__debug__":Str))=false) zz1._auto_1):PE X (.Name x pos) (tC v):=
 λ_ _ _ H _ I h=>fo I hg hm hv ⟨v,H,I,r,h⟩ hn hd
variable {a b:Expr}{ta tb:TE}{pos:Pos}
def PC(X:Cx)(op:CmpOp)(a b:Expr)(t:TE):Prop:=
 ∀(pins:LX) (s:LZ) (σ:St) (H:Hp) (Q:VK),Inv X pins σ H s->t σ H Q ->
  wpAny (model X.prog X.w) X.A (eval a X.env) (λv s₁=>wpAny (model X.prog X.w) X.A (eval b X.env) (λu s₂=>wpAny (model X.prog X.w) X.A (compareOp op v u) (EP X pins σ Q) X.xe s₂) X.xe s₁) X.xe s
theorem Ce(b:Expr){op:CmpOp}(h:op≠.In)(h2:op≠.NotIn):behindInMarks op b=false:=by
 have c:(op==CmpOp.In)=false:=by cases op<;>first | rfl | exact q0Q rfl h
 have a:(op==CmpOp.NotIn)=false:=by cases op<;>first | rfl | exact q0Q rfl h2
 cases b<;>simp[behindInMarks,c,a]
def tB(t:TE):TT:=λσ H Q=>t σ H λx H1=>∃c,x=.bl c/\Q c H1
theorem lI{op:CmpOp}{t:TE}(h:PC X op a b t)(h1:behindInMarks op b=false:=by first | exact Ce _ nofun nofun | rfl):PT X (.Compare a [op] [b] pos) (tB t):=by
 intro e s σ H Q I hw;refine wpAny_isTrue_Compare1 (bT (h e s σ H _ I hw) λv s1 h1=>bT h1 λu s2 h2=>bT h2 λc s3 ⟨x,H1,j,g,i⟩=>?_) h1;obtain⟨d,rfl,q⟩:=i;cases g;exact wpAny_truthy_bool ⟨H1,j,q⟩
variable {tA tB':TT}{bx:Md}
def Fa(t u:TT):TT:=λσ H Q=>t σ H λc H1=>if c=true then u σ H1 Q else Q false H1
def Hu(t u:TT):TT:=λσ H Q=>t σ H λc H1=>if c=true then Q true H1 else u σ H1 Q
def E6(t:TT):TT:=λσ H Q=>t σ H λc H1=>Q (!c) H1
theorem nk(ha:PT X a tA):PW X (.BoolOp .And [a] pos) tA:=by
 intro wh b s σ H Q I h;refine isTrue_and (bT (ha b s σ H Q I h) λc s1 e=>?_);cases c with
 |true=>exact isTrue_and_nil e
 |false=>exact e
theorem xf(ha:PT X a tA):PW X (.BoolOp .Or [a] pos) tA:=by
 intro wh b s σ H Q I h;refine isTrue_or (bT (ha b s σ H Q I h) λc s1 e=>?_);cases c with
 |false=>exact isTrue_or_nil e
 |true=>exact e
theorem tG(ha:PT X a tA)(hb:PW X (.BoolOp .And (b::bx) pos) tB'):PW X (.BoolOp .And (a::b::bx) pos) (Fa tA tB'):=by
 intro i d s σ H Q I h;refine isTrue_and (bT (ha d s σ H _ I h) λc j ⟨H1,g,e⟩=>?_);cases c with
 |true=>exact hb i d j σ H1 Q g e
 |false=>exact⟨H1,g,e⟩
theorem BN(ha:PT X a tA)(hb:PW X (.BoolOp .Or (b::bx) pos) tB'):PW X (.BoolOp .Or (a::b::bx) pos) (Hu tA tB'):=by
 intro i d s σ H Q I h;refine isTrue_or (bT (ha d s σ H _ I h) λc j ⟨H1,g,e⟩=>?_);cases c with
 |true=>exact⟨H1,g,e⟩
 |false=>exact hb i d j σ H1 Q g e
theorem jJ(ha:PT X a tA):PT X (.UnaryOp .Not a pos) (E6 tA):=by
 intro b s σ H Q I h;exact isTrue_not (bT (ha b s σ H (λc H1=>Q (!c) H1) I h) λ_ _ ⟨H1,d,q⟩=>⟨H1,d,q⟩)
def Bi(ta tb:TE):TE:=λσ H Q=>ta σ H λx H1=>∃c,x=.bl c/\if c=true then tb σ H1 Q else Q (.bl false) H1
def E8(ta tb:TE):TE:=λσ H Q=>ta σ H λx H1=>∃c,x=.bl c/\if c=true then Q (.bl true) H1 else tb σ H1 Q
def A0(ta:TE):TE:=λσ H Q=>ta σ H λx H1=>∃c,x=.bl c/\Q (.bl (!c)) H1
theorem lH{op}{t:TE}(h:PE X a t):PE X (.BoolOp op [a] pos) t:=λpins s σ H Q I hw=>BoolOp_one (h pins s σ H Q I hw)
theorem iX(ha:PE X a ta)(hb:PE X (.BoolOp .And (b::bx) pos) tb):PE X (.BoolOp .And (a::b::bx) pos) (Bi ta tb):=by
 intro d s σ H Q I h;refine BoolOp_and (bT (ha d s σ H _ I h) λv i ⟨x,H1,g,j,e⟩=>?_);obtain⟨c,rfl,e⟩:=e;cases j;refine wpAny_truthy_bool ?_;cases c with
 |true=>exact hb d i σ H1 Q g e
 |false=>exact⟨.bl false,H1,g,rfl,e⟩
theorem GJ(ha:PE X a ta)(hb:PE X (.BoolOp .Or (b::bx) pos) tb):PE X (.BoolOp .Or (a::b::bx) pos) (E8 ta tb):=by
 intro d s σ H Q I h;refine BoolOp_or (bT (ha d s σ H _ I h) λv i ⟨x,H1,g,j,e⟩=>?_);obtain⟨c,rfl,e⟩:=e;cases j;refine wpAny_truthy_bool ?_;cases c with
 |false=>exact hb d i σ H1 Q g e
 |true=>exact⟨.bl true,H1,g,rfl,e⟩
theorem Fh(ha:PE X a ta):PE X (.UnaryOp .Not a pos) (A0 ta):=by
 intro b s σ H Q I h;refine UnaryOp_ (bT (ha b s σ H _ I h) λv s1 ⟨x,H1,g,e,d⟩=>?_);obtain⟨c,rfl,d⟩:=d;cases e;exact not_of (wpAny_truthy_bool ⟨.bl (!c),H1,g,rfl,d⟩)
def HJ(t:TT)(ta tb:TE):TE:=λσ H Q=>t σ H λc H1=>if c=true then ta σ H1 Q else tb σ H1 Q
theorem AT(hc:PT X c tA)(ha:PE X a ta)(hb:PE X b tb):PE X (.IfExp c a b pos) (HJ tA ta tb):=by
 intro e s σ H Q I h;refine wpAny_IfExp (bT (hc e s σ H _ I h) λd g ⟨H1,j,i⟩=>?_);cases d with
 |true=>exact ha e g σ H1 Q j i
 |false=>exact hb e g σ H1 Q j i
end
def aR(K:LW)(H:Hp)(a:Addr)(xs:List V):Prop:=
 Rd H a (.lst xs) \/
  ∃(o:Obj) (its:Array Value) (n:Nat),K.lookup a=some o/\o.cls=.type "list"/\o.dict=none/\o.data=.seq its n/\its.size<=sizeLine/\bc xs its.toList
def gG(K:LW)(H:Hp)(a:Addr)(xs:List V):Prop:=
 Rd H a (.tup xs) \/
  ∃(o:Obj) (its:Array Value) (n:Nat),K.lookup a=some o/\o.cls=.type "tuple"/\o.data=.seq its n/\its.size<=sizeLine/\bc xs its.toList
def HF:Value->Option V
 | .none=>some .non
 | .bool b=>some (.bl b)
 | .int i _=>some (.int i)
 | .str x _=>some (.str x)
 | .bytes b _=>some (.byt b)
 | .float b _=>some (.flt b)
 | .ref a=>some (.ref a)
 | .type n=>some (.ty n)
 |_=>none
theorem bh.abs(r:bh x u):HF u=some x:=by
 cases x with
 |non=>cases r;rfl
 |bl _=>cases r;rfl
 |int _=>obtain⟨t,rfl⟩:=r;rfl
 |str _=>obtain⟨t,rfl⟩:=r;rfl
 |byt _=>obtain⟨t,rfl⟩:=r;rfl
 |flt _=>obtain⟨t,rfl⟩:=r;rfl
 |ref _=>cases r;rfl
 |ty _=>cases r;rfl
theorem bh.inj(r:bh x u)(q:bh y u):x=y:=q0S (r.abs.symm.trans q.abs)
theorem bc.inj:∀{xs ys:List V} {us:L4},bc xs us->bc ys us->xs=ys
 |_,_,_,.nil,.nil=>rfl
 |_,_,_,.cons r t,.cons r' t'=>by rw[r.inj r',bc.inj t t']
section
variable {X:Cx}{pins:LX}{σ:St}{H:Hp}{s:LZ}{a:Addr}{xs ys:List V}
theorem aR.of{K:LW}(h:H a=some (.lst xs)):aR K H a xs:=.inl (.inl h)
theorem gG.of{K:LW}(h:H a=some (.tup xs)):gG K H a xs:=.inl (.inl h)
theorem Inv.list(I:Inv X pins σ H s)(h:aR X.K H a xs):∃its:List Value,bc xs its/\PlainL s.heap a its.toArray/\xs.length<=sizeLine:=by
 rcases h with h | ⟨o,its,n,c,g,d,b,hz,r⟩
 ·obtain⟨z,its,n,r,e⟩:=h.ok I.hok
  exact⟨its,r,⟨_,n,e,rfl,rfl,rfl⟩,z⟩
 ·refine⟨its.toList,r,⟨o,n,I.kIn a o c,g,d,by simpa using b⟩,?_⟩
  have e:=r.length;simp only[Array.length_toList]at e;omega
theorem Inv.tuple(I:Inv X pins σ H s)(h:gG X.K H a xs):∃its:List Value,bc xs its/\IsTup s.heap a its.toArray/\xs.length<=sizeLine:=by
 rcases h with h | ⟨o,its,n,c,d,b,hz,r⟩
 ·obtain⟨z,its,r,p⟩:=h.ok I.hok
  exact⟨its,r,p,z⟩
 ·refine⟨its.toList,r,⟨o,I.kIn a o c,d,n,by simpa using b⟩,?_⟩
  have e:=r.length;simp only[Array.length_toList]at e;omega
theorem Inv.list_inj(I:Inv X pins σ H s)(h:aR X.K H a xs)(h':aR X.K H a ys):xs=ys:=by
 obtain⟨c,r,⟨o,n,e,_,_,d⟩,_⟩:=I.list h;obtain⟨b,j,⟨o',n',g,_,_,i⟩,_⟩:=I.list h';rw[e]at g;cases g
 rw[d]at i
 injection i with d1 _
 have:c=b:=by simpa using q0R Array.toList d1
 subst this;exact r.inj j
end
abbrev Cx.wish(X:Cx)(E:LV):Cx:={X with xe:=E}
abbrev Cx.nox(X:Cx):Cx:=X.wish λ_ _=>False
theorem Cx.Ok.wish{X:Cx}(ok:X.Ok)(E:LV):(X.wish E).Ok:=
 ⟨ok.mod,ok.kind,ok.glob,ok.blt,ok.above,ok.inj,ok.has,ok.cab,ok.hd,ok.frames,ok.stk,ok.exf,ok.bs,ok.bsz,ok.noex,ok.exfs,ok.funs,ok.frf⟩
theorem Cx.Ok.unwish{X:Cx}(ok:(X.wish E).Ok):X.Ok:=
 ⟨ok.mod,ok.kind,ok.glob,ok.blt,ok.above,ok.inj,ok.has,ok.cab,ok.hd,ok.frames,ok.stk,ok.exf,ok.bs,ok.bsz,ok.noex,ok.exfs,ok.funs,ok.frf⟩
section
variable {X:Cx}{pins:LX}{σ:St}{H:Hp}{s:LZ}{E:LV}
theorem Inv.wish(I:Inv X pins σ H s)(E:LV):Inv (X.wish E) pins σ H s:=⟨I.ok.wish E,I.os,I.bare,I.base,I.loc,I.cell,I.free,I.freeC,I.pin,I.hok,I.len⟩
theorem Inv.unwish(I:Inv (X.wish E) pins σ H s):Inv X pins σ H s:=⟨I.ok.unwish,I.os,I.bare,I.base,I.loc,I.cell,I.free,I.freeC,I.pin,I.hok,I.len⟩
theorem SP.unwish{f:Flow}(h:SP (X.wish E) pins D f s'):SP X pins D f s':=by
 cases f with
 |next=>obtain⟨σ',a,I,q⟩:=h;exact⟨σ',a,I.unwish,q⟩
 |brk=>obtain⟨σ',a,I,q⟩:=h;exact⟨σ',a,I.unwish,q⟩
 |cont=>obtain⟨σ',a,I,q⟩:=h;exact⟨σ',a,I.unwish,q⟩
 |ret u=>obtain⟨v,σ',a,I,r,q⟩:=h;exact⟨v,σ',a,I.unwish,r,q⟩
theorem ux.nox{st:List Stmt}{t:TS}(h:ux X.nox st t):ux X st t:=λpins s σ H D I hw=>
 q0X (h pins s σ H D (I.wish _) hw) (λ_ _ q=>q.unwish) λ_ _ z=>False.elim z
end
section
variable {X:Cx}{st:Stmt}{bx:List Stmt}{t u:TS}{e:Expr}{te:TE}{pos:Pos}
def Bg:TS:=λD σ H=>D.nx σ H
def yY(t u:TS):TS:=λD σ H=>t {D with nx:=u D} σ H
theorem aP:ux X [] Bg:=λ_ _ σ H _ I h=>wpAny_execs_nil ⟨σ,H,I,h⟩
theorem ae(h1:PS X st t)(h2:ux X bx u):ux X (st::bx) (yY t u):=by
 intro a s σ H D I h;refine wpAny_execs_cons (bT (h1 a s σ H {D with nx:=u D} I h) λf b q=>?_);cases f with
 |next=>
  obtain⟨σ',d,c,q⟩:=q;exact h2 a b σ' d D c q
 |ret v=>exact q
 |brk=>exact q
 |cont=>exact q
theorem ag(h1:PS X st t):ux X [st] t:=by
 intro a s σ H D I h;refine wpAny_execs_cons (bT (h1 a s σ H D I h) λf s1 q=>?_);cases f with
 |next=>exact wpAny_execs_nil q
 |ret v=>exact q
 |brk=>exact q
 |cont=>exact q
theorem Inv.quiet{pins:LX}{σ:St}(I:Inv X pins σ H s):interactive X.env=false:=by simp[interactive,I.ok.kind]
def Bq(te:TE):TS:=λD σ H=>te σ H λ_ H1=>D.nx σ H1
theorem bE(he:PE X e te)(hs:autoParam (swapsWith e none pos.line X.env=pure false) zz0._auto_1):PS X (.Expr e pos) (Bq te):=by
 intro a s σ H D I h;exact wpAny_Expr_any (bT (he a s σ H _ I h) λv s1 ⟨x,H1,c,r1,b⟩=>⟨σ,H1,c,b⟩) I.quiet hs
def EN(te:TE):TS:=λD σ H=>te σ H D.rt
theorem aH(he:PE X e te):PS X (.Return (some e) pos) (EN te):=by
 intro a s σ H D I h;exact wpAny_Return_some (bT (he a s σ H _ I h) λv s1 ⟨x,H1,d,b,c⟩=>⟨x,σ,H1,d,b,c⟩)
def Ad(c:TT)(t u:TS):TS:=λD σ H=>c σ H λb H1=>if b=true then t D σ H1 else u D σ H1
theorem bJ{tc:TT}(hc:PT X c tc)(ha:ux X a t)(hb:ux X b u):PS X (.If c a b pos) (Ad tc t u):=by
 intro e s σ H D I h;refine wpAny_If (bT (hc e s σ H _ I h) λd g ⟨H1,j,i⟩=>?_);cases d with
 |true=>exact ha e g σ H1 D j i
 |false=>exact hb e g σ H1 D j i
end
abbrev TG:=V->St->Hp->(St->Hp->Prop)->Prop
abbrev CY:=List V->St->Hp->(St->Hp->Prop)->Prop
def PG(X:Cx)(target:Expr)(t:TG):Prop:=
 ∀(pins:LX) (s:LZ) (σ:St) (H:Hp) (v:V) (u:Value) (Q:St->Hp->Prop),Inv X pins σ H s->bh v u->t v σ H Q ->
  wpAny (model X.prog X.w) X.A (assign target X.env u) (λ_ s'=>SN X pins Q s') X.xe s
def F6(X:Cx)(ts:Md)(t:CY):Prop:=
 ∀(pins:LX) (s:LZ) (σ:St) (H:Hp) (vs:List V) (us:L4) (Q:St->Hp->Prop),Inv X pins σ H s->bc vs us->t vs σ H Q ->
  wpAny (model X.prog X.w) X.A (assignInOrder ((assignEach ts X.env).map (·.2)) us) (λ_ s'=>SN X pins Q s') X.xe s
section
variable {X:Cx}{pos:Pos}
def jv(i:Nat):TG:=λv σ H Q=>Q (σ.set i (some v)) H
theorem aD{i:Nat}{x:Str}(hN:X.N.Nodup)(hi:X.N[i]?=some x)(hx:Loc X.env.scope x)(hf:autoParam (X.fn x=true\/X.env.scope.names.lookup x=some .local) zz3._auto_1):PG X (.Name x pos) (jv i):=by
 intro pins s σ H v u Q I r h;exact wpAny_assign_Name (kr I hN hi hx r (λs' a=>⟨_,H,a,h⟩) hf)
theorem q02(i:Nat){x:Str}(hN:X.N.Nodup)(hi:autoParam (X.N[i]?=some x) zz0._auto_1)(hx:autoParam (Loc X.env.scope x) zzl._auto_1)(hf:autoParam (X.fn x=true\/X.env.scope.names.lookup x=some .local) zz3._auto_1):PG X (.Name x pos) (jv i):=aD hN hi hx hf
def D5:CY:=λvs σ H Q=>vs=[]/\Q σ H
def yr(t:TG)(u:CY):CY:=λvs σ H Q=>∃v r,vs=v::r/\t v σ H λσ' H'=>u r σ' H' Q
theorem gQ:F6 X [] D5:=by
 intro pins s σ H vs us Q I r h;obtain⟨e,h⟩:=h;subst e;cases r;exact assignInOrder_nil ⟨σ,H,I,h⟩
theorem cj{e:Expr}{es:Md}{t:TG}(h1:PG X e t)(h2:F6 X es u)
  (hs:autoParam ((assignEach (e::es) X.env).map (·.2)=assign e X.env::(assignEach es X.env).map (·.2)) zz0._auto_1):F6 X (e::es) (yr t u):=by
 intro a s σ H vs us Q I r h;obtain⟨v,vr,d,h⟩:=h;subst d;cases r with
 |cons r rr=>
  rw[hs];refine assignInOrder_cons (bT (h1 a s σ H _ _ _ I r h) λ_ b ⟨σ1,H1,g,c⟩=>?_);exact h2 a b σ1 H1 _ _ Q g rr c
def xK(K:LW)(n:Nat)(t:CY):TG:=λv σ H Q=>∃a xs,v=.ref a/\gG K H a xs/\xs.length=n/\t xs σ H Q
theorem wI{es:Md}{t:CY}{n:Nat}(hc:X.calm=true)(h:F6 X es t)
  (hn:autoParam ((assignEach es X.env).length=n) zz0._auto_1) (hst:autoParam ((assignEach es X.env).findIdx? (·.1)=none) zz0._auto_1):PG X (.Tuple es k pos) (xK X.K n t):=by
 intro c s σ H v u Q I r d;obtain⟨a,i,w,m,p,d⟩:=d;subst w;cases r;obtain⟨its,g,l,hz⟩:=I.tuple m;refine assign_Tuple_tuple (I.ok.hd hc) l (by simp[hn,<- p,g.length]) hst λq j=>?_;have x:Inv X c σ H {s with heap:=q }:=I.kept (t':=s.toks) λb o e=>j b o (Lj (Lq e)) e;exact h c _ σ H i _ Q x (by simpa using g) d
def BK(te:TE)(g:TG):TS:=λD σ H=>te σ H λx H1=>g x σ H1 D.nx
theorem aF{i:Nat}{x:Str}{te:TE}{pos':Pos}(hN:X.N.Nodup)(hi:X.N[i]?=some x)(hx:Loc X.env.scope x)(he:PE X e te)(hs:autoParam (swapsWith e (some (.Name x pos')) pos.line X.env=pure false) zz0._auto_1)(hf:autoParam (X.fn x=true\/X.env.scope.names.lookup x=some .local) zz3._auto_1) :
  PS X (.Assign [.Name x pos'] e pos) (BK te (jv i)):=by
 intro a s σ H D I h;refine wpAny_Assign_Name (bT (he a s σ H _ I h) λv s1 ⟨y,H1,g,b,c⟩=>?_) hs;exact kr g hN hi hx b (λs2 d=>⟨_,H1,d,c⟩) hf
theorem q01(i:Nat){x:Str}{e:Expr}{te:TE}{pos':Pos}(hN:X.N.Nodup)(he:PE X e te)(hi:autoParam (X.N[i]?=some x) zz0._auto_1)(hx:autoParam (Loc X.env.scope x) zzl._auto_1)(hs:autoParam (swapsWith e (some (.Name x pos')) pos.line X.env=pure false) zz0._auto_1)(hf:autoParam (X.fn x=true\/X.env.scope.names.lookup x=some .local) zz3._auto_1):
  PS X (.Assign [.Name x pos'] e pos) (BK te (jv i)):=aF hN hi hx he hs hf
def v5(c:TT)(tb:TS):TS:=λD σ H=>∃W:Nat->St->Hp->Prop,(∃m,W m σ H)/\∀m σ H,W m σ H ->
 c σ H λb H1=>if b=true then ∃N:St->Hp->Prop,(∀σ' H',N σ' H'->∃m',m'<m/\W m' σ' H')/\tb {D with nx:=N,ct:=N,bk:=D.nx} σ H1 else D.nx σ H1
theorem BL{body:List Stmt}{tc:TT}(hp:PassesOwn (model X.prog X.w) X.A X.env X.xe)(hc:PT X c tc)(hb:ux X body tb):PS X (.While c body [] pos) (v5 tc tb):=by
 intro a s σ H D I h;obtain⟨W,⟨m0,u⟩,d⟩:=h;refine wpAny_While (codeAny_whileLoop (λn y=>SN X a (W n) y) ?_ m0 ⟨σ,H,I,u⟩);rintro n x ⟨σ1,H1,z,r⟩;refine wpAny_passesOwn hp (bT (hc a x σ1 H1 _ z (d n σ1 H1 r)) λb w ⟨H2,q,i⟩=>?_);cases b with
 |true=>
  obtain⟨N,p,i⟩:=i;rw[q07 rfl];refine wpAny_passesOwn hp (bT (hb a w σ1 H2 _ q i) λf s3 g=>?_);cases f with
  |next=>
   obtain⟨σ3,e,o,k⟩:=g;obtain⟨l,m,j⟩:=p σ3 e k;exact⟨l,m,σ3,e,o,j⟩
  |cont=>
   obtain⟨σ3,e,o,k⟩:=g;obtain⟨l,m,j⟩:=p σ3 e k;exact⟨l,m,σ3,e,o,j⟩
  |brk=>exact g
  |ret v=>exact g
 |false=>
  rw[q06 Lp];exact wpAny_execs_nil ⟨σ1,H2,q,i⟩
end
structure It where
 go:Nat->Hp->Prop
 yld:Nat->Hp->V->Hp->Prop
 stop:Nat->Hp->Prop
def mK(X:Cx)(pins:LX)(H:Hp)(b:Addr):Prop:=
 H b=none/\b≠X.env.locals/\b∉X.fs/\(b∈X.ex\/X.s₀.heap.objs.size<=b)/\(∀x c,X.env.cells.lookup x=some c->c≠b)/\∀p∈X.pn++pins,p.1≠b
theorem Inv.fpOk{pins:LX}{σ:St}{H':Hp}{b:Addr}(I:Inv X pins σ H s)(hb:s.heap.objs.size<=b)(hn:H' b=none):mK X pins H' b:=by
 refine⟨hn,Nat.ne_of_gt (Li I.lt hb),I.nofs hb,.inr (Lv I.sz hb),λx c e z=>?_,λp a z=>?_⟩
 ·obtain⟨v,q⟩:=I.cell x c e
  exact q0Q (Li q.lt (by rw[z];exact hb)) (Lw _)
 ·exact q0Q (Li (Lq (I.pin p a).1) (by rw[z];exact hb)) (Lw _)
structure wM(P:L8)(w:Mb)(K:LW)(tg:Expr)(J:It)(fp:L5)(it:Addr)(tn:Nat->Heap->Prop):Prop where
 mem:it∈fp
 obj:∀i h,tn i h->∀b∈fp,∃o,h.get? b=some o/\∀v,o.data≠.cell v
 keep:∀i h h',tn i h->(∀b∈fp,∀o,h.get? b=some o->h'.get? b=some o)->tn i h'
 item:∀(X:Cx),X.prog=P->X.w=w->X.K=K->X.calm=true->∀(i:Nat) (pins:LX) (s:LZ) (σ:St) (H:Hp) (E:LV),Inv X pins σ H s->(∀b∈fp,mK X pins H b)->tn i s.heap->J.go i H ->
  wpAny (model P w) X.A (pyNext (.ref it)) (λr s1=>∃u,r=some u /\
   wpAny (model P w) X.A (letOwnedTupleGo tg (.ref it) u) (λ_ s2=>∃x H',Inv X pins σ H' s2/\bh x u/\J.yld i H x H'/\tn (i+1) s2.heap/\∀b∈fp,H' b=none) E s1) E s
 done:∀(X:Cx),X.prog=P->X.w=w->X.K=K->X.calm=true->∀(i:Nat) (pins:LX) (s:LZ) (σ:St) (H:Hp) (E:LV),Inv X pins σ H s->(∀b∈fp,mK X pins H b)->tn i s.heap->J.stop i H ->
  wpAny (model P w) X.A (pyNext (.ref it)) (λr s1=>r=none/\Inv X pins σ H s1) E s
 self:∀(A:Ma) (i:Nat) (s:LZ) (Q:LV) (E:LV),tn i s.heap->Q (.ref it) s->wpAny (model P w) A (pyIter (.ref it)) Q E s
abbrev TI:=St->Hp->(It->Hp->Prop)->Prop
def HZ(X:Cx)(pins:LX)(σ:St)(tg:Expr)(R:It->Hp->Prop)(itv:Value)(s2:LZ):Prop:=
 ∃(it:Addr) (fp:L5) (tn:Nat->Heap->Prop) (J:It) (H':Hp),itv=.ref it/\Inv X pins σ H' s2/\wM X.prog X.w X.K tg J fp it tn/\tn 0 s2.heap/\(∀b∈fp,mK X pins H' b)/\R J H'
def PI(X:Cx)(tg iter:Expr)(wi:TI):Prop:=
 ∀(pins:LX) (s:LZ) (σ:St) (H:Hp) (R:It->Hp->Prop),Inv X pins σ H s->wi σ H R ->
  wpAny (model X.prog X.w) X.A (eval iter X.env) (λv s1=>wpAny (model X.prog X.w) X.A (pyIter v) (HZ X pins σ tg R) X.xe s1) X.xe s
theorem yn{s:LZ}{tg:Expr}{it:Addr}{u:Value}{o:Obj}{Q:Unit->Shared->Prop}(ho:s.heap.get? it=some o)(hc:o.cls=.type n)(hd:o.data=.fields vs)
  (hn:["enumerate","zip","dict_itemiterator","dict_reverseitemiterator","odict_iterator","itertools.zip_longest","itertools.pairwise"].contains n=false) (hQ:Q () s):wpAny M A (letOwnedTupleGo tg (.ref it) u) Q E s:=by
 unfold letOwnedTupleGo;cases tg<;>first
  |exact q05 hQ
  | (cases u<;>first
    |exact q05 hQ
    | (refine q04 (wpAny_load ho ?_)
       rw[hc,hd];show wpAny M A (if(["enumerate","zip","dict_itemiterator","dict_reverseitemiterator","odict_iterator","itertools.zip_longest","itertools.pairwise"].contains n&&vs[0]?==some (rawInt _))=true then _ else _) Q E s;rw[q06 (by intro h;rw[hn,Bool.false_and]at h;cases h)];exact q05 hQ))
def zT(K:LW)(a:Addr):It:=
 ⟨λi H=>∃xs x,aR K H a xs/\xs[i]?=some x,λi H x H'=>H'=H/\∀xs,aR K H a xs->xs[i]?=some x,λi H=>∃xs,aR K H a xs/\xs.length<=i⟩
def Ao(lo:Int)(n:Nat):It:=⟨λi _=>i<n,λi H x H'=>H'=H/\x=.int (lo+i),λi _=>n<=i⟩
theorem zB{K:LW}{tg:Expr}(a it:Addr):wM P w K tg (zT K a) [it] it (λi h=>h.IsListIter it a i) where
 mem:=by simp
 obj:=λi h g b l=>by
  have e:b=it:=by simpa using l
  subst e;obtain⟨o,e,c,d⟩:=g;exact⟨o,e,λv z=>by rw[d]at z;cases z⟩
 keep:=λi h q g k=>g.at λo e=>k it (by simp) o e
 item:=by
  intro X D C G S i j s σ H E I hf g hg;subst D C G;obtain⟨T,x,n,B⟩:=hg;obtain⟨y,r,p,Z⟩:=I.list n;obtain⟨u,hu,Y⟩:=r.get B;obtain⟨R,O,f2,M,L,J⟩:=hf it (by simp);refine wpAny_pyNext_list_item g p.isList (x:=u) (by simpa using hu) λq m U=>?_;have I1:Inv X j σ H {s with heap:=q }:=I.turned (t':=s.toks) (λb o l e=>(U.2 b l).trans e) R O M L J;obtain⟨o,e,c,d⟩:=id m;exact⟨u,rfl,yn (s:={s with heap:=q }) e c d nofun ⟨x,H,I1,Y,⟨rfl,λys hy=>by rw[I.list_inj hy n];exact B⟩,m,λb l=>(hf b l).1⟩⟩
 done:=by
  intro X D C G S i j s σ H E I hf g hg;subst D C G;obtain⟨T,n,B⟩:=hg;obtain⟨y,r,p,Z⟩:=I.list n;obtain⟨R,O,f2,M,L,J⟩:=hf it (by simp);have hl:=r.length;exact wpAny_pyNext_list_end (I.ok.hd S) g p.isList (by simp;omega) λq eb=>⟨rfl,I.turned (t':=s.toks) (λb o l e=>eb b o l e) R O M L J⟩
 self:=λ_ _ _ _ _ g h=>wpAny_pyIter_listiter g h
theorem xA{K:LW}{tg:Expr}(it:Addr)(lo:Int)(n:Nat):wM P w K tg (Ao lo n) [it] it (λi h=>IsRangeIter h it (lo+(i:Nat)*1) ((n:Int)-(i:Nat)) 1) where
 mem:=by simp
 obj:=λi h a b d=>by
  have e:b=it:=by simpa using d
  subst e;exact⟨_,a,λv z=>by
   have D:Data.fields _=Data.cell v:=z;cases D⟩
 keep:=λi h j a k=>k it (by simp) _ a
 item:=by
  intro X p l q m i c s σ H E I hf a hg;subst p l q;obtain⟨B,y,L,x,u,r⟩:=hf it (by simp);have W:=Walks.range (prog:=X.prog) (w:=X.w) (I.ok.hd m) it lo 1 n;refine W.item i s _ _ hg a λv j C J g G=>?_;obtain⟨t,rfl⟩:=J;have O:Inv X c σ H {s with heap:=j,toks:=C}:=I.turned (λb o d e=>G b o (by simpa using d) e) B y x u r;refine⟨_,rfl,yn (s:={s with heap:=j,toks:=C}) (n:="range_iterator") g rfl rfl nofun ⟨.int (lo+i),H,O,⟨t,?_⟩,⟨rfl,rfl⟩,g,λb d=>(hf b d).1⟩⟩;rw[Int.mul_one]
 done:=by
  intro X p l q m i c s σ H E I hf a hg;subst p l q;obtain⟨B,y,L,x,u,r⟩:=hf it (by simp);exact wpAny_pyNext_range_end (I.ok.hd m) a (by have:n<=i:=hg;omega) λj M=>⟨rfl,I.turned (t':=s.toks) (λb o d e=>M b o d e) B y x u r⟩
 self:=λ_ _ _ _ _ a h=>wpAny_pyIter_rangeiter a h
section
variable {X:Cx}{tg:Expr}
def Bx(K:LW)(tl:TE):TI:=λσ H R=>tl σ H λx H1=>∃a,x=.ref a/\(∃xs,aR K H1 a xs)/\R (zT K a) H1
theorem tX{tl:TE}(hl:PE X l tl):PI X tg l (Bx X.K tl):=by
 intro c s σ H R I h;refine bT (hl c s σ H _ I h) λv d ⟨x,H1,g,i,j⟩=>?_;obtain⟨a,e,⟨xs,k⟩,q⟩:=j;subst e;cases i;obtain⟨its,rv,p,hz⟩:=g.list k;refine wpAny_pyIter_list p.isList ?_;refine⟨d.heap.objs.size,[d.heap.objs.size],_,_,H1,rfl,g.kept (t':=d.toks) λb o e=>K2 _ e,zB a _,⟨_,K8 _ rfl,rfl,rfl⟩,λb m=>?_,q⟩;have e:b=d.heap.objs.size:=by simpa using m
 subst e;exact g.fpOk (Ln _) (g.hok.fresh (Ln _))
theorem vX{pins:LX}{σ:St}{s:LZ}{R:It->Hp->Prop}{E:LV}{lo hi:Int}{t u v:Tok}{tk:Nat}(I:Inv X pins σ H s)(h1:-(2 ^ 62)<=lo)(h2:lo<2 ^ 62)(h3:-(2 ^ 62)<=hi)(h4:hi<2 ^ 62)
  (q:R (Ao lo (hi-lo).toNat) H):wpAny (model X.prog X.w) X.A (pyIter (.ref s.heap.objs.size)) (HZ X pins σ tg R) E {s with heap:=s.heap.push {cls:=.type "range",data:=.fields #[.int lo t,.int hi u,.int 1 v]},toks:=tk}:=by
 refine wpAny_pyIter_range (IsRange.new ..) (small_one h1 h2 h3 h4) ?_;have a:Inv X pins σ H {s with heap:=s.heap.push {cls:=.type "range",data:=.fields #[.int lo t,.int hi u,.int 1 v]},toks:=tk}:=I.kept λb o e=>K2 _ e;refine⟨(s.heap.push {cls:=.type "range",data:=.fields #[.int lo t,.int hi u,.int 1 v]}).objs.size,[(s.heap.push {cls:=.type "range",data:=.fields #[.int lo t,.int hi u,.int 1 v]}).objs.size],_,_,H,rfl,
  a.kept (t':=tk) λb o e=>K2 _ e,xA _ lo (hi-lo).toNat,?_,λb c=>?_,q⟩
 ·have g:lo+((0:Nat):Int)*1=lo:=by simp
  have d:(((hi-lo).toNat:Nat):Int)-((0:Nat):Int)=Builtin.Range.rangeSize lo hi 1:=by rw[rangeSize_one];split<;>omega
  show IsRangeIter _ _ (lo+((0:Nat):Int)*1) ((((hi-lo).toNat:Nat):Int)-((0:Nat):Int)) 1;rw[g,d];exact K8 _ rfl
 ·have e:b=(s.heap.push {cls:=.type "range",data:=.fields #[.int lo t,.int hi u,.int 1 v]}).objs.size:=by simpa using c
  subst e;exact a.fpOk (Ln _) (a.hok.fresh (Ln _))
def vk(ta:TA):TI:=λσ H R=>ta σ H λvs H1=>∃j:Int,vs=[.int j]/\-(2 ^ 62)<=j/\j<2 ^ 62/\R (Ao 0 j.toNat) H1
def A6(ta:TA):TI:=λσ H R=>ta σ H λvs H1=>∃i j:Int,vs=[.int i,.int j]/\(-(2 ^ 62)<=i/\i<2 ^ 62/\-(2 ^ 62)<=j/\j<2 ^ 62)/\R (Ao i (j-i).toNat) H1
theorem qW{a:Expr}{ta:TA}{p pos:Pos}(hg:Gl X "range")(hm:X.mg "range"=none)(ha:PA X [a] ta)(hs:autoParam (starEach [a] X.env=[(false,eval a X.env)]) zz0._auto_1):PI X tg (.Call (.Name "range" p) [a] [] pos) (vk ta):=by
 intro b s σ H R I h;refine Call_ (fo I hg hm boot_range (PyProof.Rows.callWith_type1 (bT (ha pos b s σ H _ I h) λus s1 ⟨vs,H1,i,d,c⟩=>?_) hs rfl));obtain⟨j,e,c,g,q⟩:=c;subst e;cases d with
 |cons r rr=>
  cases rr;obtain⟨t,rfl⟩:=r;exact call_range_1 (vX i ⋯ ⋯ c g (by simpa using q))
theorem jc{a b:Expr}{ta:TA}{p pos:Pos}(hg:Gl X "range")(hm:X.mg "range"=none)(ha:PA X [a,b] ta)(hs:autoParam (starEach [a,b] X.env=[(false,eval a X.env),(false,eval b X.env)]) zz0._auto_1)(hs2:autoParam (starEach [b] X.env=[(false,eval b X.env)]) zz0._auto_1) :
  PI X tg (.Call (.Name "range" p) [a,b] [] pos) (A6 ta):=by
 intro c s σ H R I h;refine Call_ (fo I hg hm boot_range (PyProof.Rows.callWith_type1 (bT (ha pos c s σ H _ I h) λus s1 ⟨vs,H1,n,g,d⟩=>?_) (by rw[hs,hs2]) (by rw[hs2];rfl)));obtain⟨i,j,e,⟨d,m,l,k⟩,q⟩:=d;subst e;cases g with
 |cons r rr=>
  cases rr with
  |cons r' rr=>
   cases rr;obtain⟨t,rfl⟩:=r;obtain⟨t',rfl⟩:=r';exact call_range_2 (vX n d m l k q)
def HN(wi:TI)(g:TG)(tb:TS):TS:=λD σ H=>wi σ H λJ H1=>∃W:Nat->Nat->St->Hp->Prop,(∃m,W 0 m σ H1)/\∀i m σ H,W i m σ H ->
 (J.stop i H/\D.nx σ H)\/(J.go i H/\∃N:St->Hp->Prop,(∀σ' H',N σ' H'->∃m',m'<m/\W (i+1) m' σ' H')/\∀x H',J.yld i H x H'->g x σ H' λσ2 H2=>tb {D with nx:=N,ct:=N,bk:=D.nx} σ2 H2)
def oA(fp:L5)(h:Heap):List (Addr×Obj):=fp.filterMap λb=>(h.get? b).map λo=>(b,o)
theorem ia{fp:L5}{h:Heap}{b:Addr}{o:Obj}(hb:b∈fp)(e:h.get? b=some o):(b,o)∈oA fp h:=List.mem_filterMap.mpr ⟨b,hb,by rw[e];rfl⟩
theorem zh{fp:L5}{p:Addr×Obj}(hp:p∈oA fp h):p.1∈fp/\h.get? p.1=some p.2:=by
 obtain⟨b,a,e⟩:=List.mem_filterMap.mp hp;cases q:h.get? b with
 |none=>rw[q]at e;cases e
 |some o=>
  rw[q]at e;have c:(b,o)=p:=q0S e;subst c;exact⟨a,q⟩
theorem Inv.pinned{pins:LX}{σ:St}{fp:L5}(I:Inv X pins σ H s)(hf:∀b∈fp,mK X pins H b)(ho:∀b∈fp,∃o,s.heap.get? b=some o/\∀v,o.data≠.cell v):Inv X (pins++oA fp s.heap) σ H s:=
 I.pins_of λp hp=>(Ld.mp hp).elim (λz=>I.pin p (q0C _ z)) λz=>by
  obtain⟨hb,e⟩:=zh z;obtain⟨f0,f1,f2,_⟩:=hf p.1 hb;obtain⟨o,e',d⟩:=ho p.1 hb;rw[e]at e';cases e'
  exact⟨e,f0,f1,f2,d⟩
theorem Inv.unpinned{pins pl:LX}{σ:St}(I:Inv X (pins++pl) σ H s):Inv X pins σ H s:=I.pins_of λp hp=>I.pin p (q0C _ (q0D _ hp))
theorem E2{iter:Expr}{body:List Stmt}{wi:TI}{pos:Pos}(hp:PassesOwn (model X.prog X.w) X.A X.env X.xe)(hc:X.calm=true)(hi:PI X tg iter wi)(hg:PG X tg g)(hb:ux X body tb)
  (hs:autoParam (∀x,foldedSetIterable iter X.env x=pure x) zz4._auto_1):PS X (.For tg iter body [] pos) (HN wi g tb):=by
 intro a s σ H D I h;refine wpAny_For (bT (hi a s σ H _ I h) λv s1 h1=>bT h1 λitv s2 h2=>?_) hs;obtain⟨it,G,U,J,H2,e,I2,T,M,f2,W,⟨m0,w0⟩,w⟩:=h2;subst e
 -- what stays true of the iterator's objects through the loop
 have c:∀{H':Hp},(∀b∈G,H' b=none)->∀b∈G,mK X a H' b:=λhn b hb=>⟨hn b hb,(f2 b hb).2⟩;refine codeAny_forLoop_any (λn s'=>∃i σ' H',Inv X a σ' H' s'/\U i s'.heap/\(∀b∈G,H' b=none)/\W i n σ' H') ?_ m0 ⟨0,σ,H2,I2,M,λb hb=>(f2 b hb).1,w0⟩;rintro n Z ⟨i,σ3,L,I3,z,C,w3⟩;rcases w i n σ3 L w3 with⟨y,qn⟩ | ⟨go,N,hN,step⟩
 ·refine wpAny_passesOwn hp (bT (T.done X rfl rfl rfl hc i a Z σ3 L X.xe I3 (c C) z y) λr s4 ⟨hr,I4⟩=>?_)
  subst hr;exact wpAny_execs_nil ⟨σ3,L,I4,qn⟩
 ·refine wpAny_passesOwn hp (bT (T.item X rfl rfl rfl hc i a Z σ3 L X.xe I3 (c C) z go) λr s4 ⟨u,hr,h4⟩=>?_)
  subst hr;refine wpAny_passesOwn hp (bT h4 λ_ Y ⟨x,H5,I5,r5,y5,q,R⟩=>?_);have S:=I5.pinned (c R) (T.obj _ _ q);refine wpAny_passesOwn hp (bT (hg _ Y σ3 H5 x u _ S r5 (step x H5 y5)) λ_ s6 ⟨σ6,H6,I6,q6⟩=>?_);refine wpAny_passesOwn hp (bT (hb _ s6 σ6 H6 _ I6 q6) λf O p=>?_);have j:∀{σ7:St} {l:Hp},Inv X (a++oA G Y.heap) σ7 l O->N σ7 l->∃m,m<n/\∃i σ' H',Inv X a σ' H' O/\U i O.heap/\(∀b∈G,H' b=none)/\W i m σ' H':=fun{σ7 l} k B=>by
   obtain⟨m',hm,w7⟩:=hN σ7 l B;refine⟨m',hm,i+1,σ7,l,k.unpinned,T.keep _ _ _ q λb hb o e=>(k.pin (b,o) (q0C _ (q0C _ (ia hb e)))).1,λb hb=>?_,w7⟩;obtain⟨o,e,d⟩:=T.obj _ _ q b hb;exact(k.pin (b,o) (q0C _ (q0C _ (ia hb e)))).2.1
  cases f with
  |next=>obtain⟨σ7,l,k,B⟩:=p;exact j k B
  |cont=>obtain⟨σ7,l,k,B⟩:=p;exact j k B
  |brk=>obtain⟨σ7,l,k,p⟩:=p;exact⟨σ7,l,k.unpinned,p⟩
  |ret v=>obtain⟨x7,σ7,l,k,r7,p⟩:=p;exact⟨x7,σ7,l,k.unpinned,r7,p⟩
end
theorem Cj{K:LW}{xs:List V}{g:TG}{tb:TS}{D:fW}{σ:St}{H:Hp}(Pv:Nat->St->Hp->Prop)(h0:Pv 0 σ H)(hl:∀i σ H,i<=xs.length->Pv i σ H->aR K H a xs)
  (hs:∀i x σ H,xs[i]?=some x->Pv i σ H->g x σ H λσ2 H2=>tb {D with nx:=Pv (i+1),ct:=Pv (i+1),bk:=D.nx} σ2 H2) (hd:∀σ H,Pv xs.length σ H->D.nx σ H) :
  ∃W:Nat->Nat->St->Hp->Prop,(∃m,W 0 m σ H)/\∀i m σ H,W i m σ H ->
   ((zT K a).stop i H/\D.nx σ H)\/((zT K a).go i H/\∃N:St->Hp->Prop,(∀σ' H',N σ' H'->∃m',m'<m/\W (i+1) m' σ' H')/\∀x H',(zT K a).yld i H x H'->g x σ H' λσ2 H2=>tb {D with nx:=N,ct:=N,bk:=D.nx} σ2 H2):=by
 refine⟨λi m σ H=>m=xs.length-i/\i<=xs.length/\Pv i σ H,⟨xs.length,by simp,Lo _,h0⟩,?_⟩;rintro i m σ H ⟨rfl,c,p⟩;have q:=hl i σ H c p
 by_cases b:i<xs.length
 ·refine .inr ⟨⟨xs,xs[i],q,by simp[b]⟩,Pv (i+1),λσ' H' p'=>⟨xs.length-(i+1),⋯,rfl,b,p'⟩,λx H' y=>?_⟩
  obtain⟨e,y⟩:=y;subst e;exact hs i x σ _ (y xs q) p
 ·have e:i=xs.length:=by omega
  subst e;exact .inl ⟨⟨xs,q,Ln _⟩,hd σ H p⟩
theorem y3{lo:Int}{n:Nat}{g:TG}{tb:TS}{D:fW}{σ:St}{H:Hp}(Pv:Nat->St->Hp->Prop)(h0:Pv 0 σ H)
  (hs:∀i σ H,i<n->Pv i σ H->g (.int (lo+i)) σ H λσ2 H2=>tb {D with nx:=Pv (i+1),ct:=Pv (i+1),bk:=D.nx} σ2 H2) (hd:∀σ H,Pv n σ H->D.nx σ H) :
  ∃W:Nat->Nat->St->Hp->Prop,(∃m,W 0 m σ H)/\∀i m σ H,W i m σ H ->
   ((Ao lo n).stop i H/\D.nx σ H)\/((Ao lo n).go i H/\∃N:St->Hp->Prop,(∀σ' H',N σ' H'->∃m',m'<m/\W (i+1) m' σ' H')/\∀x H',(Ao lo n).yld i H x H'->g x σ H' λσ2 H2=>tb {D with nx:=N,ct:=N,bk:=D.nx} σ2 H2):=by
 refine⟨λi m σ H=>m=n-i/\i<=n/\Pv i σ H,⟨n,by simp,Lo _,h0⟩,?_⟩;rintro i m σ H ⟨rfl,hi,p⟩
 by_cases a:i<n
 ·refine .inr ⟨a,Pv (i+1),λσ' H' p'=>⟨n-(i+1),⋯,rfl,a,p'⟩,λx H' y=>?_⟩
  obtain⟨e,y⟩:=y;subst e y;exact hs i σ _ a p
 ·have e:i=n:=by omega
  subst e;exact .inl ⟨Ln _,hd σ H p⟩
abbrev R2:=V->V->Hp->VK->Prop
def bD(X:Cx)(f:Value->Value->Sem Value)(r:R2):Prop:=
 ∀(pins:LX) (s:LZ) (σ:St) (H:Hp) (x y:V) (v u:Value) (Q:VK),Inv X pins σ H s->bh x v->bh y u->r x y H Q ->
  wpAny (model X.prog X.w) X.A (f v u) (EP X pins σ Q) X.xe s
def eM(X:Cx)(f:Value)(r:List V->Hp->VK->Prop):Prop:=
 ∀(pins:LX) (s:LZ) (σ:St) (H:Hp) (xs:List V) (us:L4) (Q:VK),Inv X pins σ H s->bc xs us->r xs H Q ->
  wpAny (model X.prog X.w) X.A (call f us) (EP X pins σ Q) X.xe s
def EU(r:R2)(ta tb:TE):TE:=λσ H Q=>ta σ H λx H1=>tb σ H1 λy H2=>r x y H2 Q
def rI(C:Int->Int->Prop)(g:Int->Int->V):R2:=λx y H Q=>∃i j,x=.int i/\y=.int j/\C i j/\Q (g i j) H
def Al(g:Int->Int->V):R2:=λx y H Q=>∃i j,x=.int i/\y=.int j/\Q (g i j) H
section
variable {X:Cx}{a b c:Expr}{ta tb tc:TE}{pos:Pos}
theorem Fo(ha:PE X a ta)(hb:PE X b tb){pins:LX}{s:LZ}{σ:St}{H:Hp}{R:V->V->Hp->Prop}(I:Inv X pins σ H s)
  (h:ta σ H λx H1=>tb σ H1 λy H2=>R x y H2) {Q:LV} {f:Value->Value->Sem Value}
  (hf:∀v u s2 x y H2,Inv X pins σ H2 s2->bh x v->bh y u->R x y H2->wpAny (model X.prog X.w) X.A (f v u) Q X.xe s2) :
  wpAny (model X.prog X.w) X.A (eval a X.env) (λv s₁=>wpAny (model X.prog X.w) X.A (eval b X.env) (λu s₂=>wpAny (model X.prog X.w) X.A (f v u) Q X.xe s₂) X.xe s₁) X.xe s:=by
 refine bT (ha pins s σ H _ I h) λv c ⟨x,H1,k,e,i⟩=>?_;refine bT (hb pins c σ H1 _ k i) λu s2 ⟨y,H2,j,d,g⟩=>?_;exact hf v u s2 x y H2 j e d g
theorem aE{op:Operator}{r:R2}(ho:bD X (binaryOp op) r)(ha:PE X a ta)(hb:PE X b tb):PE X (.BinOp a op b pos) (EU r ta tb):=by
 intro c s σ H Q I h;exact wpAny_BinOp (Fo ha hb I h λv u d x y H2 i g e q=>ho c d σ H2 x y v u Q i g e q)
theorem HU{f:Value->Value->Sem Value}{C:Int->Int->Prop}{g:Int->Int->Int}
  (rule:∀(i j:Int) (t u:Tok) (s:LZ) (Q:LV) (E:LV),C i j->Q (.int (g i j) s.toks) {s with toks:=s.toks+1}->wpAny (model X.prog X.w) X.A (f (.int i t) (.int j u)) Q E s) :
  bD X f (rI C λi j=>.int (g i j)):=by
 intro pins s σ H x y v u Q I rx ry h;obtain⟨i,j,rfl,rfl,b,q⟩:=h;obtain⟨t,rfl⟩:=rx;obtain⟨a,rfl⟩:=ry;exact rule i j t a s _ _ b ⟨.int (g i j),H,I.tok _,⟨_,rfl⟩,q⟩
theorem Gf{f:Value->Value->Sem Value}{g:Int->Int->Int}
  (rule:∀(i j:Int) (t u:Tok) (s:LZ) (Q:LV) (E:LV),Q (.int (g i j) s.toks) {s with toks:=s.toks+1}->wpAny (model X.prog X.w) X.A (f (.int i t) (.int j u)) Q E s) :
  bD X f (Al λi j=>.int (g i j)):=by
 intro pins s σ H x y v u Q I rx ry h;obtain⟨i,j,rfl,rfl,q⟩:=h;obtain⟨t,rfl⟩:=rx;obtain⟨a,rfl⟩:=ry;exact rule i j t a s _ _ ⟨.int (g i j),H,I.tok _,⟨_,rfl⟩,q⟩
theorem D2{f:Value->Value->Sem Value}{g:Int->Int->Bool}
  (rule:∀(i j:Int) (t u:Tok) (s:LZ) (Q:LV) (E:LV),Q (.bool (g i j)) s->wpAny (model X.prog X.w) X.A (f (.int i t) (.int j u)) Q E s) :
  bD X f (Al λi j=>.bl (g i j)):=by
 intro pins s σ H x y v u Q I rx ry h;obtain⟨i,j,rfl,rfl,q⟩:=h;obtain⟨t,rfl⟩:=rx;obtain⟨a,rfl⟩:=ry;exact rule i j t a s _ _ ⟨.bl (g i j),H,I,rfl,q⟩
def Cn(i j:Int):Prop:=(-(2 ^ 64)<i/\i<2 ^ 64)\/(-(2 ^ 64)<j/\j<2 ^ 64)
theorem Cn.ok(h:Cn i j):IntMulOk i j:=by
 rcases h with⟨h1,h2⟩ | ⟨h1,h2⟩
 ·exact .of_left (intBits_le_64 h1 h2)
 ·exact .of_right (intBits_le_64 h1 h2)
theorem bW:bD X (binaryOp .Add) (Al λi j=>.int (i+j)):=Gf λ_ _ _ _ _ _ _ q=>add_int q
theorem tj:bD X (binaryOp .Sub) (Al λi j=>.int (i-j)):=Gf λ_ _ _ _ _ _ _ q=>sub_int q
theorem cW:bD X (binaryOp .Mult) (rI Cn λi j=>.int (i*j)):=HU λ_ _ _ _ _ _ _ hc q=>mul_int q hc.ok
theorem bG:bD X (binaryOp .Mod) (rI (λ_ j=>0<j) λi j=>.int (i%j)):=HU λi j _ _ _ _ _ hc q=>by
 have h1:(0:Int)<j:=hc;exact mod_int' ⋯ (by rw[Int.fmod_eq_emod_of_nonneg i ⋯];exact q)
end
def AF:V->V->Bool
 | .non,.non=>true | .non,.int _=>true | .int _,.non=>true | .non,.bl _=>true | .bl _,.non=>true | .non,.str _=>true | .str _,.non=>true
 | .int _,.int _=>true | .bl _,.bl _=>true | .str _,.str _=>true | .byt _,.byt _=>true
 | .int _,.str _=>true | .str _,.int _=>true | .bl _,.str _=>true | .str _,.bl _=>true
 |_,_=>false
def HR:R2:=λx y H Q=>AF x y=true/\Q (.bl (decide (x=y))) H
def Hx:R2:=λx y H Q=>AF x y=true/\Q (.bl (!decide (x=y))) H
theorem yj{i j:Int}:decide (V.int i=V.int j)=(i==j):=by
 rw[Bool.eq_iff_iff];simp
theorem BJ:decide (V.bl i=V.bl j)=(i==j):=by
 rw[Bool.eq_iff_iff];simp
theorem yg:decide (V.str i=V.str j)=(i==j):=by
 rw[Bool.eq_iff_iff];simp
theorem ym:decide (V.byt i=V.byt j)=(i.toList==j.toList):=by
 rw[Bool.eq_iff_iff];cases i;cases j;simp
section
variable {X:Cx}{a b c:Expr}{ta tb tc:TE}{pos:Pos}
theorem bv{pins:LX}{σ:St}{Q:VK}{k':Bool}(I:Inv X pins σ H s)(q:Q (.bl k) H)(e:k=k'):EP X pins σ Q (.bool k') s:=by
 subst e;exact⟨.bl k,H,I,rfl,q⟩
theorem d0:bD X (compareOp .Eq) HR:=by
 intro pins s σ H x y v u Q I rx ry h;obtain⟨b,q⟩:=h;cases x with
 |non=>
  cases rx;cases y with
  |non=>cases ry;exact PySem.EqNone.eq_none_none (bv I q (by simp))
  |bl j=>cases ry;exact PySem.EqNone.eq_none_bool (bv I q (by simp))
  |int j=>obtain⟨a,rfl⟩:=ry;exact PySem.EqNone.eq_none_int (bv I q (by simp))
  |str j=>obtain⟨a,rfl⟩:=ry;exact PySem.EqNone.eq_none_str (bv I q (by simp))
  |_=>exact q0Q (show false=true from b) Lp
 |bl i=>
  cases rx;cases y with
  |non=>cases ry;exact PySem.EqNone.eq_bool_none (bv I q (by simp))
  |bl j=>cases ry;exact eq_bool (bv I q BJ)
  |str j=>obtain⟨a,rfl⟩:=ry;exact PySem.EqMixed.eq_bool_str (bv I q (by simp))
  |_=>exact q0Q (show false=true from b) Lp
 |int i=>
  obtain⟨t,rfl⟩:=rx;cases y with
  |non=>cases ry;exact PySem.EqNone.eq_int_none (bv I q (by simp))
  |int j=>obtain⟨a,rfl⟩:=ry;exact eq_int (bv I q yj)
  |str j=>obtain⟨a,rfl⟩:=ry;exact PySem.EqMixed.eq_int_str (bv I q (by simp))
  |_=>exact q0Q (show false=true from b) Lp
 |str i=>
  obtain⟨t,rfl⟩:=rx;cases y with
  |non=>cases ry;exact PySem.EqNone.eq_str_none (bv I q (by simp))
  |bl j=>cases ry;exact PySem.EqMixed.eq_str_bool (bv I q (by simp))
  |int j=>obtain⟨a,rfl⟩:=ry;exact PySem.EqMixed.eq_str_int (bv I q (by simp))
  |str j=>obtain⟨a,rfl⟩:=ry;exact eq_str (bv I q yg)
  |_=>exact q0Q (show false=true from b) Lp
 |byt i=>
  obtain⟨t,rfl⟩:=rx;cases y with
  |byt j=>obtain⟨a,rfl⟩:=ry;exact PySem.W.eq_bytes (bv I q ym)
  |_=>exact q0Q (show false=true from b) Lp
 |_=>cases y<;>exact q0Q (show false=true from b) Lp
theorem GK:bD X (compareOp .NotEq) Hx:=by
 intro pins s σ H x y v u Q I rx ry h;obtain⟨b,q⟩:=h;cases x with
 |non=>
  cases rx;cases y with
  |non=>cases ry;exact PySem.EqNone.ne_none_none (bv I q (by simp))
  |bl j=>cases ry;exact PySem.EqNone.ne_none_bool (bv I q (by simp))
  |int j=>obtain⟨a,rfl⟩:=ry;exact PySem.EqNone.ne_none_int (bv I q (by simp))
  |str j=>obtain⟨a,rfl⟩:=ry;exact PySem.EqNone.ne_none_str (bv I q (by simp))
  |_=>exact q0Q (show false=true from b) Lp
 |bl i=>
  cases rx;cases y with
  |non=>cases ry;exact PySem.EqNone.ne_bool_none (bv I q (by simp))
  |bl j=>cases ry;exact ne_bool (bv I q (q0R not BJ))
  |str j=>obtain⟨a,rfl⟩:=ry;exact PySem.EqMixed.ne_bool_str (bv I q (by simp))
  |_=>exact q0Q (show false=true from b) Lp
 |int i=>
  obtain⟨t,rfl⟩:=rx;cases y with
  |non=>cases ry;exact PySem.EqNone.ne_int_none (bv I q (by simp))
  |int j=>obtain⟨a,rfl⟩:=ry;exact ne_int (bv I q (q0R not yj))
  |str j=>obtain⟨a,rfl⟩:=ry;exact PySem.EqMixed.ne_int_str (bv I q (by simp))
  |_=>exact q0Q (show false=true from b) Lp
 |str i=>
  obtain⟨t,rfl⟩:=rx;cases y with
  |non=>cases ry;exact PySem.EqNone.ne_str_none (bv I q (by simp))
  |bl j=>cases ry;exact PySem.EqMixed.ne_str_bool (bv I q (by simp))
  |int j=>obtain⟨a,rfl⟩:=ry;exact PySem.EqMixed.ne_str_int (bv I q (by simp))
  |str j=>obtain⟨a,rfl⟩:=ry;exact ne_str (bv I q (q0R not yg))
  |_=>exact q0Q (show false=true from b) Lp
 |byt i=>
  obtain⟨t,rfl⟩:=rx;cases y with
  |byt j=>obtain⟨a,rfl⟩:=ry;exact PySem.W.ne_bytes (bv I q (q0R not ym))
  |_=>exact q0Q (show false=true from b) Lp
 |_=>cases y<;>exact q0Q (show false=true from b) Lp
theorem uW:bD X (compareOp .Lt) (Al λi j=>.bl (decide (i<j))):=D2 λ_ _ _ _ _ _ _ q=>lt_int q
theorem kR:bD X (compareOp .LtE) (Al λi j=>.bl (decide (i<=j))):=D2 λ_ _ _ _ _ _ _ q=>le_int q
theorem mh:bD X (compareOp .Gt) (Al λi j=>.bl (decide (j<i))):=D2 λ_ _ _ _ _ _ _ q=>gt_int q
theorem Gv:bD X (compareOp .GtE) (Al λi j=>.bl (decide (j<=i))):=D2 λ_ _ _ _ _ _ _ q=>ge_int q
theorem zn:bD X (compareOp .In) (λx y H Q=>∃i j,x=.str i/\y=.str j/\Q (.bl (!(Builtin.Str.occurrences j i 0 j.length 1).isEmpty)) H):=by
 intro pins s σ H x y v u Q I rx ry h;obtain⟨i,j,rfl,rfl,q⟩:=h;obtain⟨t,rfl⟩:=rx;obtain⟨t',rfl⟩:=ry;exact in_str (bv I q rfl)
theorem AC:bD X (compareOp .Is) (λx y H Q=>y=.non/\Q (.bl (decide (x=.non))) H):=by
 intro pins s σ H x y v u Q I rx ry h;obtain⟨rfl,q⟩:=h;cases ry;refine is_none_gen (bv I q ?_);cases x<;>first
  | (cases rx;rfl)
  | (obtain⟨t,rfl⟩:=rx;rfl)
theorem DW:bD X (compareOp .IsNot) (λx y H Q=>y=.non/\Q (.bl (!decide (x=.non))) H):=by
 intro pins s σ H x y v u Q I rx ry h;obtain⟨rfl,q⟩:=h;cases ry;refine isnot_none_gen (bv I q ?_);cases x<;>first
  | (cases rx;rfl)
  | (obtain⟨t,rfl⟩:=rx;rfl)
theorem tz:bD X (compareOp .NotIn) (λx y H Q=>∃i j,x=.str i/\y=.str j/\Q (.bl (!(!(Builtin.Str.occurrences j i 0 j.length 1).isEmpty))) H):=by
 intro pins s σ H x y v u Q I rx ry h;obtain⟨i,j,rfl,rfl,q⟩:=h;obtain⟨t,rfl⟩:=rx;obtain⟨t',rfl⟩:=ry;exact notIn_str (bv I q rfl)
theorem aX(b:Expr){op:CmpOp}(h:autoParam (op≠.In) zz1._auto_1)(h2:autoParam (op≠.NotIn) zz1._auto_1):behindInMarks op b=false:=by
 have c:(op==CmpOp.In)=false:=by cases op<;>first | rfl | exact q0Q rfl h
 have a:(op==CmpOp.NotIn)=false:=by cases op<;>first | rfl | exact q0Q rfl h2
 cases b<;>simp[behindInMarks,c,a]
theorem dX{op:CmpOp}{r:R2}(ho:bD X (compareOp op) r)(ha:PE X a ta)(hb:PE X b tb)(hm:behindInMarks op b=false):PE X (.Compare a [op] [b] pos) (EU r ta tb):=by
 intro c s σ H Q I h;exact wpAny_Compare1 (Fo ha hb I h λv u d x y H2 i g e q=>ho c d σ H2 x y v u Q i g e q) hm
def qL(t:TE):TT:=λσ H Q=>t σ H λx H'=>∃k,x=.bl k/\Q k H'
theorem nn{op:CmpOp}{r:R2}(ho:bD X (compareOp op) r)(ha:PE X a ta)(hb:PE X b tb)(hm:behindInMarks op b=false):PT X (.Compare a [op] [b] pos) (qL (EU r ta tb)):=by
 intro d s σ H Q I h;refine wpAny_isTrue_Compare1 (bT (ha d s σ H _ I h) λv i ⟨x,H1,B,m,p⟩=>bT (hb d i σ H1 _ B p) λu g ⟨y,H2,w,l,o⟩=>
  bT (ho d g σ H2 x y v u _ w m l o) λc s3 ⟨z,C,q,j,k,e,n⟩=>?_) hm
 subst e;cases j;exact wpAny_truthy_bool ⟨C,q,n⟩
def sR(r r':R2)(ta tb tc:TE):TE:=λσ H Q=>ta σ H λx H1=>tb σ H1 λy H2=>r x y H2 λz H3=>∃k,z=.bl k /\
 (if k=true then tc σ H3 λw' H4=>r' y w' H4 Q else Q (.bl false) H3)
theorem vQ{op op':CmpOp}{r r':R2}(ho:bD X (compareOp op) r)(ho':bD X (compareOp op') r')(ha:PE X a ta)(hb:PE X b tb)(hc:PE X c tc)
  (hm:autoParam (lastMarks [op,op'] [b,c]=false) zz5._auto_1):PE X (.Compare a [op,op'] [b,c] pos) (sR r r' ta tb tc):=by
 intro g s σ H Q I h;refine Compare_chain (bT (ha g s σ H _ I h) λv w ⟨x,H1,R,D,L⟩=>chain_link (bT (hb g w σ H1 _ R L) λu q ⟨y,H2,O,i,J⟩=>
  bT (ho g q σ H2 x y v u _ O D i J) λd p ⟨z,m,l,C,k,e,j⟩=>?_)) hm
 subst e;cases C;refine wpAny_truthy_bool ?_;cases k with
 |false=>exact ite_ff ⟨.bl false,m,l,rfl,j⟩
 |true=>exact ite_tt (chain_last (bT (hc g p σ m _ l j) λw' o ⟨n,S,M,B,G⟩=>ho' g o σ S y n u w' Q M i B G))
theorem uT{op op':CmpOp}{r r':R2}(ho:bD X (compareOp op) r)(ho':bD X (compareOp op') r')(ha:PE X a ta)(hb:PE X b tb)(hc:PE X c tc)
  (hm:autoParam (lastMarks [op,op'] [b,c]=false) zz5._auto_1):PT X (.Compare a [op,op'] [b,c] pos) (qL (sR r r' ta tb tc)):=by
 intro g s σ H Q I h;refine isTrue_chain (bT (ha g s σ H _ I h) λv w ⟨x,H1,I1,G,O⟩=>test_link (bT (hb g w σ H1 _ I1 O) λu q ⟨y,H2,Z,i,M⟩=>
  bT (ho g q σ H2 x y v u _ Z G i M) λd p ⟨z,m,l,D,k,e,j⟩=>?_)) hm
 subst e;cases D;refine wpAny_truthy_bool ?_;cases k with
 |false=>
  obtain⟨k',T,R⟩:=j;cases T;exact ite_ff ⟨m,l,R⟩
 |true=>
  refine ite_tt (test_last (bT (hc g p σ m _ l j) λw' o ⟨n,H4,Y,C,L⟩=>bT (ho' g o σ H4 y n u w' _ Y i C L) λd' s5 ⟨z2,H5,U,B,k2,S,J⟩=>?_));subst S;cases B;exact wpAny_truthy_bool ⟨H5,U,J⟩
theorem n_:(sizeLine:Nat)<2 ^ 63:=by rw[q0W];decide
theorem jI:bD X (binaryOp .Add) (λx y H Q=>∃i j,x=.str i/\y=.str j/\i.length+j.length<=sizeLine/\Q (.str (i++j)) H):=by
 intro pins s σ H x y v u Q I rx ry h;obtain⟨i,j,rfl,rfl,b,q⟩:=h;obtain⟨t,rfl⟩:=rx;obtain⟨a,rfl⟩:=ry;exact add_str (λa tk=>⟨.str (i++j),H,I.tok _,⟨_,rfl⟩,q⟩) b
theorem ou{x:V}{us:L4}(r:bc [x] us):∃u,us=[u]/\bh x u:=by
 cases r with
 |cons r1 r2=>cases r2;exact⟨_,rfl,r1⟩
end
structure v_(h:Heap)(x dx C:Addr)(mA:L6):Prop where
 obj:h.get? x=some (PySem.W.instObj C dx)
 ns:h.Ns1 dx mA
 ne:dx≠x
set_option tactic.hygienic true in
theorem qI{h:Heap}{mA:L6}(n:h.Ns1 dx mA):∃od,h.get? dx=some od/\∀name,PySem.W.lookIn name od=some (mA name):=by
 obtain⟨o,es,ep,ho,hd,hk,_,hm⟩:=n;refine⟨o,ho,λname=>?_⟩;have e:=hm name;unfold nsFind findBy at e;rw[<- Array.find?_toList]at e;unfold PySem.W.lookIn;rw[hd];dsimp only
 split
 ·rename_i y q
  rw[q]at e;exact q0R some e
 ·rename_i q
  rw[q]at e;have a:es.toList.any (·.refKey)=false:=by
   rw[List.any_eq_false];intro y hy;obtain⟨z,t,hkey⟩:=hk y (Array.mem_toList_iff.mp hy);simp[DictEntry.refKey,hkey]
  have a':¬ es.toList.any (·.refKey)=true:=by rw[a];exact Lp
  rw[q06 a'];exact q0R some e
theorem v_.look{mA:L6}(I:v_ h x dx C mA):∃od,PySem.W.InstAt h x (PySem.W.instObj C dx) C (some od)/\∀name,PySem.W.lookIn name od=some (mA name):=
 let ⟨od,ho,hl⟩:=qI I.ns
 ⟨od,⟨I.obj,rfl,rfl,ho⟩,hl⟩
section
variable {prog:L8}{w:Mb}{A:Ma}{E:LV}{s:LZ}{K:LW}{x dx C f:Addr}{mA:L6}{name:Str}{v:Value}
theorem Di{expr:Bool}{Q:LV}(X:K.In s.heap)(I:v_ s.heap x dx C mA)(hg:PySem.W.plainGet K C name=true)(hh:PySem.W.hasDictIn K C=true)
  (ha:PySem.W.findIn K (.ref C) name=some none) (hv:mA name=some v) (hv':PySem.W.handedIn v=true) (h:Q v {s with toks:=s.toks+1}) :
  wpAny (model prog w) A (getAttr (.ref x) name expr) Q E s:=by
 obtain⟨od,J,a⟩:=I.look;exact PySem.W.get_value X J (PySem.W.plainGet_of hg).1 (PySem.W.findObj_own hh ha rfl (by rw[a,hv])) hv' h
theorem CO{pl:Sem Bool}{Q:Value×List Value->Shared->Prop}(X:K.In s.heap)(I:v_ s.heap x dx C mA)(hg:PySem.W.plainGet K C name=true)
  (hf:PySem.W.findIn K (.ref C) name=some (some (.ref f))) (ht:PySem.W.isFn K (.ref f)=true) (hv:mA name=none) (h:Q (.ref f,[.ref x]) s) :
  wpAny (model prog w) A (getMethod (.ref x) name pl) Q E s:=by
 obtain⟨a,J,b⟩:=I.look;exact PySem.W.method_fn X J (PySem.W.plainGet_of hg).1 (PySem.W.plainGet_of hg).2 hf (beq_iff_eq.mp ht) (by show(PySem.W.lookIn name a).map (·.isSome)=some false;rw[b,hv];rfl) h
theorem C5{ns:L9}{Q:Unit->Shared->Prop}(X:K.In s.heap)(I:v_ s.heap x dx C mA)
  (hs:PySem.W.findIn K (.ref C) "__setattr__"=some (some (.builtin "object.__setattr__"))) (hp:PySem.W.plainOver K C=true) (ht:PySem.W.takerIn K C name=some none) (hh:PySem.W.hasDictIn K C=true)
  (hw:PySem.Within mA ns) (hsz:ns.length<=sizeLine)
  (h:∀h',v_ h' x dx C (λy=>if y=name then some v else mA y)->Heap.SameBut dx s.heap h'->Q () {s with heap:=h',toks:=s.toks+2}) :
  wpAny (model prog w) A (setAttr (.ref x) name v) Q E s:=by
 obtain⟨od,J,hl⟩:=I.look;refine PySem.W.set_plain X J hs (PySem.W.osa_open (s:={s with toks:=s.toks+1}) (r:=none) X J hp ht λb=>?_);obtain⟨cd,l,i⟩:=PySem.W.any_some hh;have k:s.heap.get? x=some ⟨.ref C,some dx,.plain,#[]⟩:=I.obj;refine q04 (q05 (q04 (q04 (wpAny_loadPart k (q04 (PySem.W.Looks.here (s:={s with toks:=s.toks+1}) (PySem.W.looks_clsIn X l) ?_))))));rw[i];refine q05 (a:=some dx) (q04 (q05 (q04 ?_)));refine wpAny_nsSet1 (s:={s with toks:=s.toks+1}) I.ns λh' d c=>?_;obtain⟨oD,esD,epD,e,g,j⟩:=d.count (PySem.Within.cons name v hw);refine q04 (wpAny_lookBehind e (by rw[g];exact pastItsLine_dict (Lv j (by rw[Lb];omega))) ?_);exact q05 (h _ ⟨(c.2 _ (Ne.symm I.ne)).trans I.obj,d,I.ne⟩ c)
theorem B1{R:Result->Shared->Prop}{vs:L4}{kw:List (Str×Value)}(X:K.In s.heap)(hm:PySem.W.makesIn K C=true)
  (hi:PySem.W.findIn K (.ref C) "__init__"=some (some (.ref f))) (hf:PySem.W.typeIn K (.ref f)=some (.type "function"))
  (h:codeAny (model prog w) (A.under (.builtin "type.__call__" ⟨.ref C::vs,kw⟩)) (.call (.ref f) ⟨.ref (s.heap.objs.size+1)::vs,kw⟩) (PySem.W.InitBack (s.heap.objs.size+1) R)
   {s with heap:=(s.heap.push PySem.W.emptyDict).push (PySem.W.instObj C s.heap.objs.size)}) :
  codeAny (model prog w) A (.call (.ref C) ⟨vs,kw⟩) R s:=by
 obtain⟨hh,g,d,t,os⟩:=s;exact PySem.W.make_core (PySem.W.makes_of X hm) (PySem.W.looks_findIn X hi) (λself=>PySem.W.bind_fn X self hf) (.inl rfl) h
end
def cE(f:Str)(v:V):List (Str×V)->List (Str×V)
 | []=>[(f,v)]
 | (g,x)::r=>if g=f then(g,v)::r else(g,x)::cE f v r
theorem mf(f g:Str)(v:V):∀fs:List (Str×V),(cE f v fs).lookup g=if g=f then some v else fs.lookup g
 | []=>by
  show List.lookup g [(f,v)]=_
  by_cases h:g=f
  ·have hb:(g==f)=true:=beq_iff_eq.mpr h
   simp only[List.lookup,hb,q07 h]
  ·have hb:(g==f)=false:=beq_eq_false_iff_ne.mpr h
   simp only[List.lookup,hb,q06 h]
 | (k,x)::r=>by
  have ih:=mf f g v r;rw[show cE f v ((k,x)::r)=(if k=f then(k,v)::r else(k,x)::cE f v r) from rfl]
  by_cases hk:k=f
  ·rw[q07 hk]
   by_cases h:g=k
   ·have hb:(g==k)=true:=beq_iff_eq.mpr h
    simp only[List.lookup,hb,q07 (h.trans hk)]
   ·have hb:(g==k)=false:=beq_eq_false_iff_ne.mpr h
    simp only[List.lookup,hb,q06 (λe:g=f=>h (e.trans hk.symm))]
  ·rw[q06 hk]
   by_cases h:g=k
   ·have hb:(g==k)=true:=beq_iff_eq.mpr h
    simp only[List.lookup,hb,q06 (λe:g=f=>hk (h.symm.trans e))]
   ·have hb:(g==k)=false:=beq_eq_false_iff_ne.mpr h
    simp only[List.lookup,hb];exact ih
theorem lT(f:Str)(v:V):∀fs:List (Str×V),f∈(cE f v fs).map (·.1)/\∀g,g∈fs.map (·.1)->g∈(cE f v fs).map (·.1)
 | []=>⟨by simp[cE],λg h=>by simp at h⟩
 | (k,x)::r=>by
  obtain⟨i1,i2⟩:=lT f v r;rw[show cE f v ((k,x)::r)=(if k=f then(k,v)::r else(k,x)::cE f v r) from rfl]
  by_cases hk:k=f
  ·rw[q07 hk]
   subst hk;exact⟨by simp,λg h=>by simpa using h⟩
  ·rw[q06 hk]
   refine⟨?_,λg h=>?_⟩
   ·rw[Lu]
    exact Lg _ i1
   ·rw[Lu]at h ⊢
    rcases Lf.mp h with e | e
    ·exact Lf.mpr (.inl e)
    ·exact Lg _ (i2 g e)
theorem cX(f:Str)(v:V):∀fs:List (Str×V),(cE f v fs).length<=fs.length+1
 | []=>by simp[cE]
 | (k,x)::r=>by
  have ih:=cX f v r;rw[show cE f v ((k,x)::r)=(if k=f then(k,v)::r else(k,x)::cE f v r) from rfl]
  by_cases hk:k=f
  ·rw[q07 hk,Lb,Lb];omega
  ·rw[q06 hk,Lb,Lb];omega
theorem iu.some_of{v:V}{o:Option Value}(r:iu (some v) o):∃u,o=some u/\bh v u:=by
 cases o with
 |none=>exact(show False from r).elim
 |some u=>exact⟨u,rfl,r⟩
theorem iu.none_of(r:iu none o):o=none:=by
 cases o with
 |none=>rfl
 |some u=>exact(show False from r).elim
theorem zI(r:bh v u):PySem.W.handedIn u=true:=by
 cases v with
 |non=>cases(show u=Value.none from r);rfl
 |bl b=>cases(show u=Value.bool b from r);rfl
 |int i=>obtain⟨t,e⟩:=(show ∃t,u=Value.int i t from r);cases e;rfl
 |str x=>obtain⟨t,e⟩:=(show ∃t,u=Value.str x t from r);cases e;rfl
 |byt b=>obtain⟨t,e⟩:=(show ∃t,u=Value.bytes b t from r);cases e;rfl
 |flt b=>obtain⟨t,e⟩:=(show ∃t,u=Value.float b t from r);cases e;rfl
 |ref a=>cases(show u=Value.ref a from r);rfl
 |ty n=>cases(show u=Value.type n from r);rfl
section
variable {P:L8}{w:Mb}{H H':Hp}{h h':Heap}{a C dx:Addr}{fs fs':List (Str×V)}
theorem ng(hok:jh P w H h)(e:H a=some (.ins C dx fs)):∃mA,v_ h a dx C mA/\(∀f,iu (fs.lookup f) (mA f))/\PySem.Within mA (fs.map (·.1))/\fs.length<=1000/\H dx=some (.own a):=by
 obtain⟨d,z,c,b,mA,n,r,q⟩:=(show bK P w H h a (.ins C dx fs) from hok a _ e);exact⟨mA,⟨b,n,c⟩,r,q,z,d⟩
end
structure io(K:LW)(C:Addr):Prop where
 pg:PySem.W.plainGet K C Str.empty=true
 hd:PySem.W.hasDictIn K C=true
 po:PySem.W.plainOver K C=true
 sa:PySem.W.findIn K (.ref C) "__setattr__"=some (some (.builtin "object.__setattr__"))
theorem io.get{K:LW}(c:io K C)(f:Str):PySem.W.plainGet K C f=true:=c.pg
def au(K:LW)(C:Addr)(f:Str):Prop:=PySem.W.findIn K (.ref C) f=some none
theorem au.taker{K:LW}{f:Str}(n:au K C f):PySem.W.takerIn K C f=some none:=by
 unfold PySem.W.takerIn;rw[show PySem.W.findIn K (.ref C) f=some none from n]
 rfl
structure ip(K:LW)(C:Addr)(m:Str)(f:Addr):Prop where
 at_:PySem.W.findIn K (.ref C) m=some (some (.ref f))
 fn:PySem.W.isFn K (.ref f)=true
 kp:PySem.W.keepIn K (.ref f)=true
section
variable {X:Cx}{pins:LX}{σ:St}{H:Hp}{s:LZ}{a C dx:Addr}{fs:List (Str×V)}{f:Str}{v:V}{A:Ma}{E:LV}
theorem xT{Q:LV}(I:Inv X pins σ H s)(e:H a=some (.ins C dx fs))(c:io X.K C)(n:au X.K C f)(l:fs.lookup f=some v)
  (h:∀u s',Inv X pins σ H s'->bh v u->Q u s'):wpAny (model X.prog X.w) A (getAttr (.ref a) f b) Q E s:=by
 obtain⟨g,O,r,_,_,_⟩:=ng I.hok e;obtain⟨u,i,d⟩:=iu.some_of (v:=v) (o:=g f) (by rw[<- l];exact r f);exact Di I.kIn O (c.get f) c.hd n i (zI d) (h u _ (I.tok _) d)
theorem fq{pl:Sem Bool}{Q:Value×List Value->Shared->Prop}(I:Inv X pins σ H s)(e:H a=some (.ins C dx fs))(c:io X.K C)(k:ip X.K C m g)(l:fs.lookup m=none)
  (h:Q (.ref g,[.ref a]) s):wpAny (model X.prog X.w) A (getMethod (.ref a) m pl) Q E s:=by
 obtain⟨b,O,r,_,_,_⟩:=ng I.hok e;have d:b m=none:=iu.none_of (by rw[<- l];exact r m);exact CO I.kIn O (c.get m) k.at_ k.fn d h
theorem w8{Q:Unit->Shared->Prop}(I:Inv X pins σ H s)(e:H a=some (.ins C dx fs))(c:io X.K C)(n:au X.K C f)(hl:fs.length<1000)(ry:bh y u)
  (h:∀s',Inv X pins σ (aG H a (.ins C dx (cE f y fs))) s'->Q () s'):wpAny (model X.prog X.w) A (setAttr (.ref a) f u) Q E s:=by
 obtain⟨j,O,r,i,_,k⟩:=ng I.hok e;have m:(fs.map (·.1)).length<=sizeLine:=by rw[K3,q0W];omega
 refine C5 I.kIn O c.sa c.po n.taker c.hd i m λw d l=>h _ ?_;have hd:∃o,w.get? dx=some o:=let ⟨o,_,_,e',_⟩:=d.ns;⟨o,e'⟩
 refine I.write (x:=a) (e:=dx) (by rw[e];exact True.intro) (.inr k) (λb q v z=>(l.2 b v).trans z) hd ?_;refine⟨by rw[aq O.ne];exact k,?_,O.ne,d.obj,_,d.ns,λg=>?_,λg p=>?_⟩
 ·have:=cX f y fs;omega
 ·show iu ((cE f y fs).lookup g) (if g=f then some u else j g)
  rw[mf]
  by_cases q:g=f
  ·rw[q07 q,q07 q];exact ry
  ·rw[q06 q,q06 q];exact r g
 ·by_cases q:g=f
  ·rw[q];exact(lT f y fs).1
  ·refine(lT f y fs).2 g (i g λz=>p ?_)
   show(if g=f then some u else j g)=none;rw[q06 q];exact z
theorem Inv.made(I:Inv X pins σ H s):Inv X pins σ (aG (aG H s.heap.objs.size (.own (s.heap.objs.size+1))) (s.heap.objs.size+1) (.ins C s.heap.objs.size []))
  {s with heap:=(s.heap.push PySem.W.emptyDict).push (PySem.W.instObj C s.heap.objs.size)}:=by
 have d:(s.heap.push PySem.W.emptyDict).get? s.heap.objs.size=some PySem.W.emptyDict:=K8 s.heap rfl;have k:((s.heap.push PySem.W.emptyDict).push (PySem.W.instObj C s.heap.objs.size)).get? (s.heap.objs.size+1)=some (PySem.W.instObj C s.heap.objs.size):=by
  have:=K8 (s.heap.push PySem.W.emptyDict) (o:=PySem.W.instObj C s.heap.objs.size) rfl
  rwa [Heap.size_push]at this
 have j:(s.heap.push PySem.W.emptyDict).Ns s.heap.objs.size (λ_=>none):=⟨PySem.W.emptyDict,#[],_,d,rfl,(λe i=>q0Q i (by simp)),λ_=>rfl⟩;have l:=I.laid (a:=s.heap.objs.size) (o:=.own (s.heap.objs.size+1)) (h':=s.heap.push PySem.W.emptyDict) (t':=s.toks) (λb u q=>K2 _ q) (Ln _) ⟨_,d⟩;refine l.laid (a:=s.heap.objs.size+1) (o:=.ins C s.heap.objs.size []) (t':=s.toks) (λb u q=>K2 _ q) (Nat.le_of_eq (Heap.size_push _ _)) ?_;have c:s.heap.objs.size≠s.heap.objs.size+1:=Lj (Lx _);refine⟨by rw[aq c,af],Lo _,c,k,λ_=>none,(Heap.Ns1.of_empty j).at λo q=>K2 _ q,λ_=>True.intro,λy g=>q0Q rfl g⟩
theorem DT{prog:L8}{env:Env}{f:Str}{pos:Pos}{Q:LV}(hb:attributeBase e f env (eval e env)=eval e env)
  (h:wpAny (model prog w) A (eval e env) (λo s₁=>wpAny (model prog w) A (getAttr o f true) Q E s₁) E s):wpAny (model prog w) A (eval (.Attribute e f pos) env) Q E s:=
 Attribute_any_ h (by rw[arm_eval_Attribute,hb])
end
def yT(K:LW)(ta:TE)(f:Str):TE:=λσ H Q=>ta σ H λx H1=>∃a C dx fs v,x=.ref a/\H1 a=some (.ins C dx fs)/\io K C/\au K C f/\fs.lookup f=some v/\Q v H1
def Cu(K:LW)(ta tv:TE)(f:Str):TS:=λD σ H=>tv σ H λy H1=>ta σ H1 λx H2=>∃a C dx fs,x=.ref a/\H2 a=some (.ins C dx fs)/\io K C/\au K C f/\fs.length<1000 /\
 D.nx σ (aG H2 a (.ins C dx (cE f y fs)))
section
variable {X:Cx}{o e value:Expr}{f:Str}{pos pos' tpos:Pos}{ta tv:TE}
theorem wm(he:PE X e ta)(hb:attributeBase e f X.env (eval e X.env)=eval e X.env):PE X (.Attribute e f pos) (yT X.K ta f):=by
 intro b s σ H Q I h;refine DT hb (bT (he b s σ H _ I h) λu s1 ⟨x,H1,m,d,a,C,dx,fs,v,i,j,c,n,l,q⟩=>?_);subst i;obtain rfl:u=Value.ref a:=d;exact xT m j c n l λu' s2 k g=>⟨v,H1,k,g,q⟩
theorem Fv(ha:PE X o ta)(hv:PE X value tv)(hs:swapsWith value (some (.Attribute o f pos')) pos.line X.env=pure false):PS X (.Assign [.Attribute o f pos'] value pos) (Cu X.K ta tv f):=by
 intro b s σ H D I h;refine plainObj_wpAny_Assign_Attribute (bT (hv b s σ H _ I h) λu d ⟨y,H1,r,e,q⟩=>bT (ha b d σ H1 _ r q) λov s2 ⟨x,H2,p,g,a,C,dx,fs,j,k,c,n,l,i⟩=>?_) hs;subst j;obtain rfl:ov=Value.ref a:=g;exact w8 p k c n l e λs3 m=>⟨σ,_,m,i⟩
end
section
variable {X:Cx}{pins:LX}{σ:St}{H:Hp}{s:LZ}{A:Ma}{E:LV}{Q:LV}{c:Value}{b:Bool}
inductive jo(K:LW)(H:Hp):V->Value->Prop where
 |non:jo K H .non (.type "NoneType")
 |bl (x:Bool):jo K H (.bl x) (.type "bool")
 |int (i:Int):jo K H (.int i) (.type "int")
 |str (x:Str):jo K H (.str x) (.type "str")
 |flt (x:UInt64):jo K H (.flt x) (.type "float")
 |lst {a:Addr} {xs:List V} (e:H a=some (.lst xs)):jo K H (.ref a) (.type "list")
 |frz {a:Addr} {o:Obj} {xs:List V} (e:H a=some (.frz o (.lst xs))):jo K H (.ref a) (.type "list")
 |tup {a:Addr} {xs:List V} (e:H a=some (.tup xs)):jo K H (.ref a) (.type "tuple")
 |dK {a:Addr} {kvs:List (cP×V)} (e:H a=some (.dK kvs)):jo K H (.ref a) (.type "dict")
 |dT {a:Addr} {kvs:List (List cP×V)} (e:H a=some (.dT kvs)):jo K H (.ref a) (.type "dict")
 |ins {a C dx:Addr} {fs:List (Str×V)} (e:H a=some (.ins C dx fs)) (cl:io K C) (ha:PySem.W.findIn K (.ref C) "__class__"=some (some (.builtin "object.__class__")))
   (hn:PySem.W.specialIn K (.builtin "object.__class__") "__get__"=some (some (.builtin "getset_descriptor.__get__"))) (htk:PySem.W.takesIn K (.builtin "object.__class__")=some true)
   (hm:PySem.W.mroIn K C (.type "object")=some true):jo K H (.ref a) (.ref C)
theorem Aj{t:Value}(I:Inv X pins σ H s)(rx:bh x u)(ty:jo X.K H x t)(e:PySem.W.kitOne X.K t c=some b)(h:∀tk,Q (.bool b) {s with toks:=tk}) :
  wpAny (model X.prog X.w) A (call (.builtin "isinstance") [u,c]) Q E s:=by
 cases ty with
 |non=>cases(show u=Value.none from rx);exact PySem.W.kia_one PySem.W.kitx_none I.kIn True.intro e (λz=>nomatch z) h
 |bl y=>cases(show u=Value.bool y from rx);exact PySem.W.kia_one PySem.W.kitx_bool I.kIn True.intro e (λz=>nomatch z) h
 |int i=>obtain⟨t,q⟩:=(show ∃t,u=Value.int i t from rx);cases q;exact PySem.W.kia_one PySem.W.kitx_int I.kIn True.intro e (λz=>nomatch z) h
 |str y=>obtain⟨t,q⟩:=(show ∃t,u=Value.str y t from rx);cases q;exact PySem.W.kia_one PySem.W.kitx_str I.kIn True.intro e (λz=>nomatch z) h
 |flt y=>obtain⟨t,q⟩:=(show ∃t,u=Value.float y t from rx);cases q;exact PySem.W.kia_one PySem.W.kitx_float I.kIn True.intro e (λz=>nomatch z) h
 | @lst a d ea=>
  cases(show u=Value.ref a from rx);obtain⟨_,_,n,_,h1⟩:=(show bK X.prog X.w H s.heap a (.lst d) from I.hok a _ ea);exact PySem.W.kia_one PySem.W.kitx_list I.kIn ⟨_,h1,rfl⟩ e (λz=>nomatch z) h
 | @frz a ob d ea=>
  cases(show u=Value.ref a from rx);obtain⟨_,_,_,n,_,h1⟩:=(show bK X.prog X.w H s.heap a (.frz ob (.lst d)) from I.hok a _ ea);exact PySem.W.kia_one PySem.W.kitx_list I.kIn ⟨_,h1,rfl⟩ e (λz=>nomatch z) h
 | @tup a d ea=>
  cases(show u=Value.ref a from rx);obtain⟨_,_,_,p⟩:=(show bK X.prog X.w H s.heap a (.tup d) from I.hok a _ ea);obtain⟨o,h1,h2,_⟩:=p;exact PySem.W.kia_one PySem.W.kitx_tuple I.kIn ⟨o,h1,h2⟩ e (λz=>nomatch z) h
 | @dK a kvs ea=>
  cases(show u=Value.ref a from rx);obtain⟨_,_,vs,_,p⟩:=(show bK X.prog X.w H s.heap a (.dK kvs) from I.hok a _ ea);obtain⟨o,g,j,h1,h2,_⟩:=p;exact PySem.W.kia_one PySem.W.kitx_dict I.kIn ⟨o,h1,h2.1⟩ e (λz=>nomatch z) h
 | @dT a kvs ea=>
  cases(show u=Value.ref a from rx);obtain⟨_,_,d,_,o,g,j,h1,h2,_⟩:=(show bK X.prog X.w H s.heap a (.dT kvs) from I.hok a _ ea);exact PySem.W.kia_one PySem.W.kitx_dict I.kIn ⟨o,h1,h2.1⟩ e (λz=>nomatch z) h
 | @ins a C dx fs ea cl ha hn htk hm=>
  cases(show u=Value.ref a from rx);obtain⟨mA,O,_⟩:=ng I.hok ea;obtain⟨od,J,_⟩:=O.look;exact PySem.W.kia_one (PySem.W.kitx_own (cl.get _) cl.hd ha hn htk hm) I.kIn J e (λz=>nomatch z) h
end
structure cI(k:Nat)(A:Ma):Prop where
 hd:A.handled=none
 dp:A.depth+3*k+5<recursionLimit
 un:A.units+16*k+200<cLine
theorem cI.mono{j:Nat}(r:cI k A)(h:j<=k):cI j A:=⟨r.hd,by have:=r.dp;omega,by have:=r.un;omega⟩
theorem cI.deeper{k:Nat}{A:Ma}(r:cI (k+1) A)(env:Env):cI k (A.deeper env):=
 ⟨r.hd,by have:=r.dp;show A.depth+1+3*k+5<_;omega,by have:=r.un;show A.units+3+16*k+200<_;omega⟩
theorem cI.in1{k:Nat}{A:Ma}(r:cI (k+1) A):cI k A.in1:=
 ⟨r.hd,by have:=r.dp;show A.depth+3*k+5<_;omega,by have:=r.un;show A.units+1+16*k+200<_;omega⟩
theorem we{A:Ma}{C:Addr}{us:L4}{kw:List (Str×Value)}:(A.under (.builtin "type.__call__" ⟨.ref C::us,kw⟩)).depth=A.depth+1:=by
 first | rfl | simp[Around.under,Code.weight,Code.isCreation,Code.isGuard,Code.isCaller,Code.frames,Code.isFrame,guardIds]
theorem wK{A:Ma}{C:Addr}{us:L4}{kw:List (Str×Value)}:(A.under (.builtin "type.__call__" ⟨.ref C::us,kw⟩)).units=A.units+1:=by
 first | rfl | simp[Around.under,Code.cUnits,Code.frames,Code.isFrame]
theorem cI.make{k:Nat}{A:Ma}(r:cI (k+1) A)(C:Addr)(us:L4)(kw:List (Str×Value)):cI k (A.under (.builtin "type.__call__" ⟨.ref C::us,kw⟩)):=
 ⟨r.hd,by have:=r.dp;rw[we];omega,by have:=r.un;rw[wK];omega⟩
theorem cI.depth(r:cI k A):A.depth<recursionLimit:=by have:=r.dp;omega
theorem cI.units(r:cI k A):A.units+64<cLine:=by have:=r.un;omega
def nK:TA:=λ_ H Q=>Q [] H
def kc(ta:TE)(tr:TA):TA:=λσ H Q=>ta σ H λx H1=>tr σ H1 λxs H2=>Q (x::xs) H2
section
variable {X:Cx}{e:Expr}{es:Md}{te:TE}{t:TA}{pos:Pos}
theorem ad:PA X [] nK:=λ_ _ _ _ H Q I h=>Calls.spliced_nil ⟨[],H,I,.nil,h⟩
theorem ac(ha:PE X e te)(hr:PA X es t)(hs:autoParam (starEach (e::es) X.env=(false,eval e X.env)::starEach es X.env) zz0._auto_1):PA X (e::es) (kc te t):=by
 intro b a s σ H Q I h;rw[hs];show wpAny _ _ (spliced ((false,eval e X.env)::backTo b (starEach es X.env))) _ _ s;refine Calls.spliced_cons (bT (ha a s σ H _ I h) λu d ⟨x,H1,m,i,k⟩=>?_);exact bT (hr b a d σ H1 _ m k) λus s2 ⟨c,H2,l,g,j⟩=>⟨x::c,H2,l,.cons i g,j⟩
def Fq(t:TA):TE:=λσ H Q=>t σ H λxs H1=>xs.length<=sizeLine/\∀p,H1 p=none->Q (.ref p) (aG H1 p (.tup xs))
def DL(t:TA):TE:=λσ H Q=>t σ H λxs H1=>xs.length<=sizeLine/\∀p,H1 p=none->Q (.ref p) (aG H1 p (.lst xs))
theorem b6{x1}(h:PA X es t):PE X (.Tuple es x1 pos) (Fq t):=by
 intro a s σ H Q I hq;refine wpAny_Tuple_spliced (bT (h pos a s σ H _ I hq) λus c ⟨g,H1,d,r,z,q⟩=>⟨by rw[<- r.length];exact z,?_⟩);have i:H1 c.heap.objs.size=none:=d.hok.fresh (Ln _);refine⟨.ref c.heap.objs.size,aG H1 c.heap.objs.size (.tup g),d.laid (t':=c.toks) (λb u e=>K2 _ e) (Ln _) ?_,rfl,q _ i⟩;exact⟨z,us,r,⟨_,K8 _ rfl,rfl,_,rfl⟩⟩
theorem bA(h:PA X es t):PE X (.List es pos) (DL t):=by
 intro a s σ H Q I hq;refine wpAny_List_spliced (bT (h pos a s σ H _ I hq) λus c ⟨g,H1,d,r,z,q⟩=>⟨by rw[<- r.length];exact z,?_⟩);have i:H1 c.heap.objs.size=none:=d.hok.fresh (Ln _);refine⟨.ref c.heap.objs.size,aG H1 c.heap.objs.size (.lst g),d.laid (t':=c.toks) (λb u e=>K2 _ e) (Ln _) ?_,rfl,q _ i⟩;exact⟨z,us,0,r,K8 _ rfl⟩
end
abbrev Sp:=List V->Hp->VK->XK->Prop
abbrev iy:=List Env->Hp->Shared->XK->Value->Shared->Prop
structure oZ(P:L8)(w:Mb)(K:LW)(mg:L6)(base:Heap)(A:Ma)(outer:List Env)(s:LZ)(H:Hp):Prop where
 frames:A.frames=some outer
 mod:Mod K mg base
 bs:∀b o,base.get? b=some o->s.heap.get? b=some o/\H b=none
 bsz:base.objs.size<=s.heap.objs.size
 funs:s.heap.FunFrames base outer
 frf:∀b∈kU outer,H b=none
 hok:jh P w H s.heap
 bare:AllBare s.gens
def CE(outer:List Env)(P:L8)(w:Mb)(H:Hp)(s:LZ)(Q:VK)(u:Value)(s':LZ):Prop:=
 ∃v H',s'.os=s.os/\AllBare s'.gens/\Un (kU outer) [] H H' s.heap s'.heap/\jh P w H' s'.heap/\bh v u/\Q v H'
def CR(CX:iy)(outer:List Env)(P:L8)(w:Mb)(H:Hp)(s:LZ)(Q:VK)(E:XK)(r:Result)(s':LZ):Prop:=
 match r with
 | .ok (.ret u)=>CE outer P w H s Q u s'
 | .ok _=>False
 | .error e=>CX outer H s E e s'
structure aS(P:L8)(w:Mb)(K:LW)(mg:L6)(base:Heap)(CX:iy)(k:Nat)(f:Addr)(fd:L7)(ps:L9)(sp:Sp):Prop where
 len:∀vs H Q E,sp vs H Q E->vs.length=ps.length
 run:∀(A:Ma) (outer:List Env) (s:LZ) (H:Hp) (args:Args) (us:L4) (vs:List V) (Q:VK) (E:XK),cI k A->oZ P w K mg base A outer s H->BindsTo s fd args (ps.zip us)->bc vs us->sp vs H Q E ->
  codeAny (model P w) A (.call (.ref f) args) (CR CX outer P w H s Q E) s
theorem aS.mono{K:LW}{mg:L6}{base:Heap}{CX:iy}{k:Nat}{f:Addr}{ps:L9}{sp:Sp}(F:aS P w K mg base CX j f fd ps sp)(h:j<=k) :
  aS P w K mg base CX k f fd ps sp:=⟨F.len,λA outer s H args us vs Q E hr=>F.run A outer s H args us vs Q E (hr.mono h)⟩
theorem oZ.make{K:LW}{mg:L6}{base:Heap}{outer:List Env}(e:oZ P w K mg base A outer s H)(C:Addr)(us:L4)(kw:List (Str×Value)) :
  oZ P w K mg base (A.under (.builtin "type.__call__" ⟨.ref C::us,kw⟩)) outer s H:=⟨by first | exact e.frames | (simpa[Around.under,Code.envs,Code.isFrame,pushEnvs]using e.frames),e.mod,e.bs,e.bsz,e.funs,e.frf,e.hok,e.bare⟩
theorem oZ.in1{K:LW}{mg:L6}{base:Heap}{outer:List Env}(e:oZ P w K mg base A outer s H) :
  oZ P w K mg base A.in1 outer s H:=⟨e.frames,e.mod,e.bs,e.bsz,e.funs,e.frf,e.hok,e.bare⟩
section
variable {X:Cx}{pins:LX}{σ:St}{H:Hp}{s s':LZ}
theorem Inv.env0(I:Inv X pins σ H s):oZ X.prog X.w X.K X.mg X.base X.A X.stack s H:=
 ⟨I.ok.frames,I.ok.mod,I.bs,Lv I.ok.bsz I.sz,I.stack,I.stkFree,I.hok,I.bare⟩
theorem Inv.after(I:Inv X pins σ H s)(h:CE X.stack X.prog X.w H s Q u s'):EP X pins σ Q u s':=by
 obtain⟨v,j,os,a,un,e,r,q⟩:=h;obtain⟨i,g,d,t,c⟩:=s';obtain rfl:c=s.os:=os;exact⟨v,j,I.call (h':=i) (g':=g) (d':=d) (t':=t) (ch:=[]) un e a (λb z=>q0Q z (by simp)),r,q⟩
end
def mj(sp:Sp)(dvs:List V)(E:XK)(t:TA):TE:=λσ H Q=>t σ H λvs H1=>sp (vs++dvs) H1 Q E
def rq(C:Addr)(m:Str)(sp:Sp)(dvs:List V)(E:XK)(ta:TE)(t:TA):TE:=λσ H Q=>ta σ H λx H1=>∃a dx fs,x=.ref a/\H1 a=some (.ins C dx fs)/\fs.lookup m=none /\
 t σ H1 λvs H2=>sp (x::(vs++dvs)) H2 Q E
def xW(C:Addr)(sp:Sp)(dvs:List V)(E:XK)(t:TA):TE:=λσ H Q=>t σ H λvs H1=>∀x dx,H1 x=none->H1 dx=none->dx≠x ->
 sp (.ref x::(vs++dvs)) (aG (aG H1 dx (.own x)) x (.ins C dx [])) (λv H2=>v=.non/\Q (.ref x) H2) E
def dO(K:LW)(fd:L7)(ps:L9)(ds:L4):Prop:=
 ∀(s:LZ) (us:L4),K.In s.heap->(us++ds).length=ps.length->BindsTo s fd ⟨us,[]⟩ (ps.zip (us++ds))
theorem dO.all{K:LW}{ps:L9}(h:∀us:List Value,us.length=ps.length->bindArgs fd ⟨us,[]⟩=pure (ps.zip us)):dO K fd ps []:=λs us _ hl=>by
 rw[Ly]at hl ⊢;exact .of_eq (h us hl)
def cT(CX:iy)(X:Cx)(E:XK):Prop:=∀(pins:LX) (σ:St) (H:Hp) (s:LZ) (e:Value) (s':LZ),Inv X pins σ H s->CX X.stack H s E e s'->X.xe e s'
section
variable {X:Cx}{CX:iy}{k:Nat}{f C:Addr}{fd:L7}{ps:L9}{sp:Sp}{dvs:List V}{ds:L4}{E:XK}{x m:Str}{p pos apos:Pos}{e o:Expr}{es:Md}{ta:TE}{t:TA}
theorem lU{pins:LX}{σ:St}(F:aS X.prog X.w X.K X.mg X.base CX k f fd ps sp)(hr:cI k X.A)(hb:dO X.K fd ps ds)(hd:bc dvs ds)(hx:cT CX X E)
  (I:Inv X pins σ H s) (r:bc vs us) (h:sp (vs++dvs) H Q E):wpAny (model X.prog X.w) X.A (call (.ref f) us) (EP X pins σ Q) X.xe s:=by
 have b:bc (vs++dvs) (us++ds):=r.append hd;have d:(us++ds).length=ps.length:=by rw[<- b.length];exact F.len _ _ _ _ h
 refine wpAny_call (codeAny_mono (F.run X.A X.stack s H ⟨us,[]⟩ (us++ds) (vs++dvs) Q E hr I.env0 (hb s us I.kIn d) b h) λr c a=>?_);cases r with
 |error e=>exact hx pins σ H s e c I a
 |ok fl=>
  cases fl with
  |ret u=>exact I.after a
  |next=>exact False.elim a
  |brk=>exact False.elim a
  |cont=>exact False.elim a
theorem Dq(F:aS X.prog X.w X.K X.mg X.base CX k f fd ps sp)(hr:cI k X.A)(hg:Gl X x)(hm:X.mg x=some (.ref f))(hk:PySem.W.keepIn X.K (.ref f)=true)(hb:dO X.K fd ps ds)(hd:bc dvs ds)(hx:cT CX X E)
  (ha:PA X (e::es) t) (hdb:autoParam ((x==("__debug__":Str))=false) zz1._auto_1) (he:autoParam (starEach (e::es) X.env=(false,eval e X.env)::starEach es X.env) zz0._auto_1) (hpl:autoParam ((backTo pos (starEach es X.env)).any (·.1)=false) zz0._auto_1) :
  PE X (.Call (.Name x p) (e::es) [] pos) (mj sp dvs E t):=by
 intro a s σ H Q I h;refine wpAny_Call_Name_kw (g_ I hg hm ?_ hdb);refine PySem.W.callWith_K (h₀:=X.base) I.ok.mod.kin hk (bT (ha pos a s σ H _ I h) λus s1 ⟨vs,H1,b,r,q⟩=>⟨b.kIn,?_⟩) he hpl;exact lU F hr hb hd hx b r q
theorem Dc{pl:Sem Bool}(he:PE X o ta)(c:io X.K C)(hm:ip X.K C m f)(F:aS X.prog X.w X.K X.mg X.base CX k f fd ps sp)(hr:cI k X.A)(hb:dO X.K fd ps ds)(hd:bc dvs ds)(hx:cT CX X E)(ha:PA X (e::es) t)
  (hst:autoParam (starEach (e::es) X.env=(false,eval e X.env)::starEach es X.env) zz0._auto_1) (hpl:autoParam ((backTo pos (starEach es X.env)).any (·.1)=false) zz0._auto_1)
  (ht:autoParam (eval (.Call (.Attribute o m apos) (e::es) [] pos) X.env=(do
   let ov <- eval o X.env
   standAt apos.atName
   let (f,first) <- holding [ov] (getMethod ov m pl)
   callWith pos f first (backTo pos (starEach (e::es) X.env)) (backToKw pos (keywordEach [] X.env)))) zz0._auto_1) :
  PE X (.Call (.Attribute o m apos) (e::es) [] pos) (rq C m sp dvs E ta t):=by
 intro b s σ H Q I h;refine PySem.W.methodCall_KW (pl:=pl) (bT (he b s σ H _ I h) λu i ⟨x,H1,g,j,a,dx,fs,p,v,l,q⟩=>?_) ht;subst p;obtain rfl:u=Value.ref a:=j;refine fq g v c hm l ?_;refine PySem.W.callWith_K (first:=[.ref a]) (h₀:=X.base) I.ok.mod.kin hm.kp (bT (ha pos b i σ H1 _ g q) λus s2 ⟨vs,H2,d,r,n⟩=>⟨d.kIn,?_⟩) hst hpl;exact lU (us:=.ref a::us) (vs:=.ref a::vs) F hr hb hd hx d (.cons rfl r) n
theorem AY{pl:Sem Bool}(he:PE X o ta)(c:io X.K C)(hm:ip X.K C m f)(F:aS X.prog X.w X.K X.mg X.base CX k f fd ps sp)(hr:cI k X.A)(hb:dO X.K fd ps ds)(hd:bc dvs ds)(hx:cT CX X E)
  (ht:autoParam (eval (.Call (.Attribute o m apos) [] [] pos) X.env=(do
   let ov <- eval o X.env
   standAt apos.atName
   let (f,first) <- holding [ov] (getMethod ov m pl)
   callWith pos f first (backTo pos (starEach [] X.env)) (backToKw pos (keywordEach [] X.env)))) zz0._auto_1) :
  PE X (.Call (.Attribute o m apos) [] [] pos) (rq C m sp dvs E ta nK):=by
 intro b s σ H Q I h;refine PySem.W.methodCall_KW (pl:=pl) (bT (he b s σ H _ I h) λu s1 ⟨x,H1,d,e,a,dx,fs,g,i,l,q⟩=>?_) ht;subst g;obtain rfl:u=Value.ref a:=e;refine fq d i c hm l ?_;exact PySem.W.callWith_K0 (first:=[.ref a]) d.kIn hm.kp (lU (us:=[.ref a]) (vs:=[.ref a]) F hr hb hd hx d (.cons rfl .nil) q)
structure Mk(K:LW)(C f:Addr):Prop where
 makes:PySem.W.makesIn K C=true
 init:PySem.W.findIn K (.ref C) "__init__"=some (some (.ref f))
 fn:PySem.W.isFn K (.ref f)=true
 kp:PySem.W.keepIn K (.ref C)=true
theorem Bk{pins:LX}{σ:St}{Q:VK}(M:Mk X.K C f)(F:aS X.prog X.w X.K X.mg X.base CX k f fd ps sp)(hr:cI (k+1) X.A)(hb:dO X.K fd ps ds)(hd:bc dvs ds)
  (hx:cT CX X E) (I:Inv X pins σ H s) (r:bc vs us)
  (h:∀x dx,H x=none->H dx=none->dx≠x->sp (.ref x::(vs++dvs)) (aG (aG H dx (.own x)) x (.ins C dx [])) (λv H2=>v=.non/\Q (.ref x) H2) E) :
  wpAny (model X.prog X.w) X.A (call (.ref C) us) (EP X pins σ Q) X.xe s:=by
 have d:=h (s.heap.objs.size+1) s.heap.objs.size (I.hok.fresh (Nat.le_succ _)) (I.hok.fresh (Ln _)) (Lj (Lx _));have b:=Inv.made (C:=C) I;have c:bc (V.ref (s.heap.objs.size+1)::(vs++dvs)) (Value.ref (s.heap.objs.size+1)::(us++ds)):=.cons rfl (r.append hd);have l:(Value.ref (s.heap.objs.size+1)::us++ds).length=ps.length:=by
  have e:=c.length;rw[F.len _ _ _ _ d]at e;exact e.symm
 refine wpAny_call (B1 (f:=f) I.kIn M.makes M.init (beq_iff_eq.mp M.fn) (codeAny_mono (F.run _ X.stack _ _ ⟨Value.ref (s.heap.objs.size+1)::us,[]⟩ (Value.ref (s.heap.objs.size+1)::(us++ds)) _ _ E (hr.make C us [])
  (b.env0.make C us []) (hb _ (Value.ref (s.heap.objs.size+1)::us) b.kIn l) c d) λr g a=>?_))
 cases r with
 |error e=>exact hx pins σ _ _ e g b a
 |ok fl=>
  cases fl with
  |ret u=>
   obtain⟨v,o,n,i,m,j⟩:=b.after a;subst m;exact⟨i,⟨V.ref (s.heap.objs.size+1),o,n,rfl,j⟩⟩
  |next=>exact False.elim a
  |brk=>exact False.elim a
  |cont=>exact False.elim a
theorem C7(M:Mk X.K C f)(F:aS X.prog X.w X.K X.mg X.base CX k f fd ps sp)(hr:cI (k+1) X.A)(hg:Gl X x)(hm:X.mg x=some (.ref C))(hb:dO X.K fd ps ds)(hd:bc dvs ds)(hx:cT CX X E)
  (ha:PA X (e::es) t) (hdb:autoParam ((x==("__debug__":Str))=false) zz1._auto_1) (he:autoParam (starEach (e::es) X.env=(false,eval e X.env)::starEach es X.env) zz0._auto_1) (hpl:autoParam ((backTo pos (starEach es X.env)).any (·.1)=false) zz0._auto_1) :
  PE X (.Call (.Name x p) (e::es) [] pos) (xW C sp dvs E t):=by
 intro a s σ H Q I h;refine wpAny_Call_Name_kw (g_ I hg hm ?_ hdb);refine PySem.W.callWith_K (h₀:=X.base) I.ok.mod.kin M.kp (bT (ha pos a s σ H _ I h) λus s1 ⟨vs,H1,b,r,q⟩=>⟨b.kIn,?_⟩) he hpl;exact Bk M F hr hb hd hx b r q
end
def PK(X:Cx)(kws:List Keyword)(t:TA):Prop:=
 ∀(pos:Pos) (pins:LX) (s:LZ) (σ:St) (H:Hp) (Q:List V->Hp->Prop),Inv X pins σ H s->t σ H Q->wpAny (model X.prog X.w) X.A (evalAll ((backToKw pos (keywordEach kws X.env)).map (·.2))) (AP X pins σ Q) X.xe s
section
variable {X:Cx}{CX:iy}{k:Nat}{f C:Addr}{fd:L7}{ps ks:L9}{sp:Sp}{E:XK}{x m:Str}{p pos apos kpos:Pos}{e o:Expr}{es:Md}{kws:List Keyword}{te ta:TE}{t tk:TA}{nm:Option Str}
theorem FR:PK X [] nK:=λ_ _ _ _ H Q I h=>wpAny_evalAll_nil ⟨[],H,I,.nil,h⟩
theorem C6(ha:PE X e te)(hr:PK X kws t):PK X (⟨nm,e,kpos⟩::kws) (kc te t):=by
 intro b a s σ H Q I h;show wpAny _ _ (evalAll ((do let v <- eval e X.env;standAt b;pure v)::(backToKw b (keywordEach kws X.env)).map (·.2))) _ _ s;refine wpAny_evalAll_cons (q04 (bT (ha a s σ H _ I h) λu d ⟨x,H1,m,i,k⟩=>q04 (wpAny_standAt (q05 ?_))));exact bT (hr b a d σ H1 _ m k) λus s2 ⟨c,H2,l,g,j⟩=>⟨x::c,H2,l,.cons i g,j⟩
variable {g:List Value->List Value->List Value}{gV:List V->List V->List V}
end
structure aB(N P:L9)(sc:Scope):Prop where
 kind:sc.kind=.function
 co:sc.isCoroutine=false
 gen:sc.isGenerator=false
 nd:N.Nodup
 pre:N.take P.length=P
 par:∀x∈P,sc.names.lookup x=some .local\/sc.names.lookup x=some .cell
 nofree:∀y∈sc.names,y.2≠.free
theorem qJ{kindOf:Str->Option NameKind}{x:Str}:∀{binds:List (Str×Value)} {m:L6},(∀v,(x,v)∉binds)->bindL kindOf binds m x=m x
 | [],_,_=>rfl
 | (n,v)::r,m,h=>by
  unfold bindL;rw[qJ λw hw=>h w (Lg _ hw)]
  split
  ·have:x≠n:=by rintro rfl;exact h v q0B
   simp[this]
  ·rfl
theorem rJ{kindOf:Str->Option NameKind}{x:Str}:∀{binds:List (Str×Value)} {m:L6},(∀v,(x,v)∉binds)->bindC kindOf binds m x=m x
 | [],_,_=>rfl
 | (n,v)::r,m,h=>by
  unfold bindC;rw[rJ λw hw=>h w (Lg _ hw)]
  split
  ·rfl
  ·have:x≠n:=by rintro rfl;exact h v q0B
   simp[this]
theorem qV{kindOf:Str->Option NameKind}{x:Str}{v:Value}:∀{P:L9} {vs:L4} {i:Nat} {m:L6},P.Nodup->P[i]?=some x->vs[i]?=some v->kindOf x=some .local ->
  bindL kindOf (P.zip vs) m x=some v
 | [],_,_,_,_,h,_,_=>by simp at h
 |_::_,[],_,_,_,_,h,_=>by simp at h
 |p::P,w::vs,0,m,nd,h1,h2,hk=>by
  simp at h1 h2;subst h1;subst h2
  show bindL kindOf ((p,w)::P.zip vs) m p=_;unfold bindL;rw[qJ λv hv=>(List.nodup_cons.mp nd).1 (List.of_mem_zip hv).1,q07 hk];simp
 |p::P,w::vs,i+1,m,nd,h1,h2,hk=>by
  show bindL kindOf ((p,w)::P.zip vs) m x=_;unfold bindL;exact qV (i:=i) (List.nodup_cons.mp nd).2 (by simpa using h1) (by simpa using h2) hk
theorem q9{kindOf:Str->Option NameKind}{x:Str}{v:Value}:∀{P:L9} {vs:L4} {i:Nat} {m:L6},P.Nodup->P[i]?=some x->vs[i]?=some v->kindOf x≠some .local ->
  bindC kindOf (P.zip vs) m x=some v
 | [],_,_,_,_,h,_,_=>by simp at h
 |_::_,[],_,_,_,_,h,_=>by simp at h
 |p::P,w::vs,0,m,nd,h1,h2,hk=>by
  simp at h1 h2;subst h1;subst h2
  show bindC kindOf ((p,w)::P.zip vs) m p=_;unfold bindC;rw[rJ λv hv=>(List.nodup_cons.mp nd).1 (List.of_mem_zip hv).1,q06 hk];simp
 |p::P,w::vs,i+1,m,nd,h1,h2,hk=>by
  show bindC kindOf ((p,w)::P.zip vs) m x=_;unfold bindC;exact q9 (i:=i) (List.nodup_cons.mp nd).2 (by simpa using h1) (by simpa using h2) hk
def start(N:L9)(vs:List V):St:=vs.map some++List.replicate (N.length-vs.length) none
def im(CX:iy)(P:L8)(w:Mb)(K:LW)(mg:L6)(base:Heap)(N:L9)(qual:Str)(scope:Scope)(f:Addr)(cd:Value)(A:Ma)(outer:List Env)(s:LZ)(H:Hp)(E:XK):Cx where
 prog:=P
 w:=w
 K:=K
 mg:=mg
 base:=base
 A:=A.deeper (envOfC qual scope s.heap.objs.size f cd)
 N:=N
 s₀:=s
 H₀:=H
 env:=envOfC qual scope s.heap.objs.size f cd
 outer:=outer
 stack:=envOfC qual scope s.heap.objs.size f cd::outer
 ex:=[]
 calm:=true
 fn:=λ_=>true
 pn:=[]
 xe:=λe s'=>wpAny (model P w) (A.deeper (envOfC qual scope s.heap.objs.size f cd)) (leaving (envOfC qual scope s.heap.objs.size f cd) e) (λ_ s''=>CX outer H s E e s'') (λe' s''=>CX outer H s E e' s'') s'
theorem vN{sc:Scope}(h:sc.names.lookup x=some .cell):∃c,(cellsFrom n sc.names []).lookup x=some c:=by
 have q:=PySem.W.cellsFrom_some sc.names n [] (.inl h);exact Option.isSome_iff_exists.mp q
theorem z_{CX:iy}{K:LW}{mg:L6}{base:Heap}{ps:L9}{qual:Str}{scope:Scope}{f:Addr}{cd:Value}{A:Ma}{outer:List Env}{s1:LZ}{vs:List V}
  (S:aB N ps scope) (hd:A.handled=none) (e0:oZ P w K mg base A outer s H) (hl:vs.length=ps.length) (r:bc vs us)
  (x:InCallC s s.heap.objs.size (bindL (envOfC qual scope s.heap.objs.size f cd).kindOf (ps.zip us) λ_=>none) (cellsFrom (s.heap.objs.size+1) scope.names []) (bindC (envOfC qual scope s.heap.objs.size f cd).kindOf (ps.zip us) λ_=>none) s1) :
  Inv (im CX P w K mg base N qual scope f cd A outer s H E) [] (start N vs) H s1:=by
 have hpl:ps.length<=N.length:=by have:=q0R List.length S.pre;rw[LC]at this;omega
 obtain⟨h1,tk,rfl,o⟩:=x.done;have d:∀b:Addr,b∉(im CX P w K mg base N qual scope f cd A outer s H E).ex:=λb z=>q0Q (show b∈([]:List Addr) from z) (by simp);refine⟨⟨e0.mod,S.kind,rfl,rfl,Ln _,λy z c h1 h2=>?_,λy hy=>?_,λy c _ h=>?_,λ_=>hd,Around.frames_deeper e0.frames,.inr ⟨rfl,rfl⟩,λb z=>q0Q z (d b),e0.bs,e0.bsz,λb _ _=>d b,λb z=>q0Q z (d b),e0.funs,e0.frf⟩,
  rfl,e0.bare,Un.kept o,⟨_,x.toInCall.ns,λi y v h1 h2 h3=>?_⟩,λy c h=>⟨_,x.cell y c h⟩,e0.hok.fresh (Ln _),λy c h=>?_,λp j=>q0Q (show p∈([]:List (Addr×Obj)) from j) (by simp),e0.hok.kept o,?_⟩
 ·exact name_of_addr x.apart (PySem.mem_of_lookup h1) (PySem.mem_of_lookup h2)
 ·have hy:scope.names.lookup y=some .cell\/scope.names.lookup y=some .free:=hy
  rcases hy with hy | hy
  ·exact vN hy
  ·exact q0Q rfl (S.nofree _ (PySem.mem_of_lookup hy))
 ·exact q0P (x.above y c (PySem.mem_of_lookup h))
 ·have l:i<vs.length:=by
   unfold start at h2
   by_cases l:i<vs.length
   ·exact l
   ·rw[Lk (by simpa using l)]at h2
    rw[List.getElem?_replicate]at h2
    split at h2<;>cases h2
  have C:vs[i]?=some v:=by
   unfold start at h2;rw[Ll (by simpa using l),K5]at h2;cases e:vs[i]? with
   |none=>rw[e]at h2;cases h2
   |some a=>rw[e]at h2;cases h2;rfl
  obtain⟨u,m,B⟩:=r.get C;have j:ps[i]?=some y:=by
   rw[<- S.pre,List.getElem?_take_of_lt ⋯];exact h1
  have g:ps.Nodup:=by rw[<- S.pre];exact S.nd.sublist (List.take_sublist _ _)
  refine⟨u,B,?_⟩;rcases S.par y (K6 j) with k | k
  ·exact .inl ⟨k,qV g j m k⟩
  ·obtain⟨c,e⟩:=vN (n:=s.heap.objs.size+1) k
   refine .inr ⟨.inl k,c,e,?_⟩;have q:=x.cell y c e;rw[q9 g j m (by show scope.names.lookup y≠_;rw[k];decide)]at q;exact q
 ·exact e0.hok.fresh (q0P (x.above y c (PySem.mem_of_lookup h)))
 ·unfold start
  show _=N.length;rw[Lm,K3,List.length_replicate];omega
theorem AL{CX:iy}{K:LW}{mg:L6}{base:Heap}{f:Addr}{name qual:Str}{params:Arguments}{body:List Stmt}{scope:Scope}{dV kV doc pm cdv ct oc:Value}{an od:Mc}
  {osl:Array (Option Value)}{ps:L9} {sp:Sp} (lk:K.lookup f=some ⟨oc,od,.func (PySem.W.fnOf name qual params body scope dV kV doc pm an cdv ct),osl⟩) (hcd:PySem.W.codeIn K cdv qual=true) (S:aB N ps scope)
  (len:∀vs H Q E,sp vs H Q E->vs.length=ps.length)
  (hbody:∀(A:Ma) (outer:List Env) (s:LZ) (H:Hp) (vs:List V) (Q:VK) (E:XK),cI k (A.deeper (envOfC qual scope s.heap.objs.size f cdv))->sp vs H Q E ->
   ∃t,ux (im CX P w K mg base N qual scope f cdv A outer s H E) body t/\t {nx:=λ_ H'=>Q .non H',rt:=Q} (start N vs) H) :
  aS P w K mg base CX (k+1) f (PySem.W.fnOf name qual params body scope dV kV doc pm an cdv ct) ps sp:=by
 refine⟨len,λA outer s H args z vs Q E hr g M r d=>?_⟩;have G:=len _ _ _ _ d;have p:K.In s.heap:=g.mod.kin.keeps λb o e=>(g.bs b o e).1;have l:s.heap.NoLimit:=g.mod.nolimit.keeps λb o e=>(g.bs b o e).1;have a:∀y∈ps.zip z,scope.names.lookup y.1=some .local\/(scope.names.lookup y.1=some .cell/\((cellsFrom (s.heap.objs.size+1) scope.names []).lookup y.1).isSome=true):=λ⟨n,v⟩ B=>by
  rcases S.par n (List.of_mem_zip B).1 with q | q
  ·exact .inl q
  ·exact .inr ⟨q,PySem.W.cellsFrom_some _ _ _ (.inl q)⟩
 refine codeAny_call_function hr.depth (p _ _ lk) rfl S.co S.gen rfl (PySem.W.codeRec_of p hcd) (M _ _ _ _ ?_);refine wpAny_newFunctionEnv_cells S.kind a λenv L m x=>?_;subst L;refine⟨l.keeps x.toInCall.keep,codeAny_func ?_⟩;obtain⟨t,C,D⟩:=hbody A outer s H vs Q E (hr.deeper _) d;have I:Inv (im CX P w K mg base N qual scope f cdv A outer s H E) [] (start N vs) H m:=z_ S hr.hd g G r x;refine q0X (C [] m (start N vs) H _ I D) (λO i c=>?_) λe i c=>c;have fin:∀{σ':St} {H':Hp} {v:V} {u:Value},Inv (im CX P w K mg base N qual scope f cdv A outer s H E) [] σ' H' i->bh v u->Q v H'->CE outer P w H s Q u i:=
  fun{σ' H' v u} J j q=>⟨v,H',J.os,J.bare,J.base,J.hok,j,q⟩
 cases O with
 |ret u=>
  obtain⟨v,σ',H',J,j,q⟩:=c;exact fin J j q
 |next=>
  obtain⟨σ',H',J,q⟩:=c;exact fin (v:=V.non) (u:=Value.none) J rfl q
 |brk=>
  obtain⟨_,_,_,q⟩:=c;exact False.elim q
 |cont=>
  obtain⟨_,_,_,q⟩:=c;exact False.elim q
section
variable {X:Cx}{x:Str}{p pos:Pos}{e:Expr}{es:Md}{t:TA}{id T:String}{r:List V->Hp->VK->Prop}
def Hc(r:List V->Hp->VK->Prop)(t:TA):TE:=λσ H Q=>t σ H λvs H1=>r vs H1 Q
theorem aN(hc:eM X (.builtin id) r)(hg:Gl X x)(hm:X.mg x=none)(hv:bootBuiltins x=some (.builtin id))(ha:PA X (e::es) t)(hn:autoParam (x≠"__name__") zz1._auto_1)(hdb:autoParam ((x==("__debug__":Str))=false) zz1._auto_1)
  (he:autoParam (starEach (e::es) X.env=(false,eval e X.env)::starEach es X.env) zz0._auto_1) (hpl:autoParam ((backTo pos (starEach es X.env)).any (·.1)=false) zz0._auto_1):PE X (.Call (.Name x p) (e::es) [] pos) (Hc r t):=by
 intro a s σ H Q I h;refine wpAny_Call_Name_kw (fo I hg hm hv ?_ hn hdb);exact PyProof.Rows.callWith_builtin1 (bT (ha pos a s σ H _ I h) λus b ⟨vs,H1,g,c,d⟩=>hc a b σ H1 vs us Q g c d) he hpl
theorem dz(hc:eM X (.type T) r)(hg:Gl X x)(hm:X.mg x=none)(hv:bootBuiltins x=some (.type T))(ha:PA X (e::es) t)(hn:autoParam (x≠"__name__") zz1._auto_1)(hdb:autoParam ((x==("__debug__":Str))=false) zz1._auto_1)
  (he:autoParam (starEach (e::es) X.env=(false,eval e X.env)::starEach es X.env) zz0._auto_1) (hpl:autoParam ((backTo pos (starEach es X.env)).any (·.1)=false) zz0._auto_1):PE X (.Call (.Name x p) (e::es) [] pos) (Hc r t):=by
 intro a s σ H Q I h;refine wpAny_Call_Name_kw (fo I hg hm hv ?_ hn hdb);exact PyProof.Rows.callWith_type1 (bT (ha pos a s σ H _ I h) λus b ⟨vs,H1,g,c,d⟩=>hc a b σ H1 vs us Q g c d) he hpl
end
end L2
namespace HT
open PySem PyProof.Rows
section
variable {prog:L8}{w:Mb}{A:Ma}{E:LV}{s:LZ}
def sIx(n d:Nat):Option Int->Nat
 |none=>d
 |some v=>if v<0 then(v+(n:Int)).toNat else min v.toNat n
theorem sIx_nat(n d k:Nat):sIx n d (some (k:Int))=min k n:=by
 show(if(k:Int)<0 then((k:Int)+(n:Int)).toNat else min (k:Int).toNat n)=min k n;rw[q06 ⋯,K']
theorem sIx_le(n d:Nat)(hd:d<=n)(o:Option Int):sIx n d o<=n:=by
 cases o with
 |none=>exact hd
 |some v=>
  show(if v<0 then(v+(n:Int)).toNat else min v.toNat n)<=n
  by_cases a:v<0
  ·rw[q07 a];omega
  ·rw[q06 a];exact Nat.min_le_right _ _
end
end HT
namespace L2
open PySem PySem.Spec PyProof.Rows
abbrev TO:=St->Hp->(Option Int->Hp->Prop)->Prop
def PO(X:Cx)(e:Option Expr)(t:TO):Prop:=
 ∀(pins:LX) (s:LZ) (σ:St) (H:Hp) (Q:Option Int->Hp->Prop),Inv X pins σ H s->t σ H Q ->
  wpAny (model X.prog X.w) X.A (evalPart e X.env) (λu s'=>∃o H',Inv X pins σ H' s'/\IsPart u o/\Q o H') X.xe s
def uc:TO:=λ_ H Q=>Q none H
def Bf(t:TE):TO:=λσ H Q=>t σ H λx H1=>∃i,x=.int i/\Q (some i) H1
section
variable {X:Cx}{e:Expr}{te:TE}{lo hi:Option Expr}{tl th:TO}{pos p2:Pos}
theorem iY:PO X none uc:=by
 intro pins s σ H Q I h;rw[evalPart_none];exact q05 ⟨none,H,I,.none,h⟩
theorem Eh(h:PE X e te):PO X (some e) (Bf te):=by
 intro a s σ H Q I hw;rw[evalPart_some];refine bT (h a s σ H _ I hw) λu s1 ⟨x,H1,d,b,c⟩=>?_;obtain⟨i,rfl,q⟩:=c;obtain⟨t,rfl⟩:=b;exact⟨some i,H1,d,.int i t,q⟩
def Hv(X:Cx)(r:V->Option Int->Option Int->Hp->VK->Prop):Prop:=
 ∀(pins:LX) (s:LZ) (σ:St) (H:Hp) (x:V) (v vl vu:Value) (lo hi:Option Int) (sl:Addr) (Q:VK),Inv X pins σ H s->bh x v->s.heap.IsSliceOf sl vl vu .none->IsPart vl lo->IsPart vu hi->r x lo hi H Q ->
  ∃T id,typeLookup (.type T) "__getitem__"=pure (some (.builtin id))/\s.TypeIs v T/\wpAny (model X.prog X.w) X.A (getItem v (.ref sl)) (EP X pins σ Q) X.xe s
def Hz(r:V->Option Int->Option Int->Hp->VK->Prop)(te:TE)(tl th:TO):TE:=λσ H Q=>te σ H λx H1=>tl σ H1 λl H2=>th σ H2 λu H3=>r x l u H3 Q
theorem d8(hr:Hv X r)(he:PE X e te)(hl:PO X lo tl)(hu:PO X hi th):PE X (.Subscript e (.Slice lo hi none p2) pos) (Hz r te tl th):=by
 intro a s σ H Q I h;refine Subscript_ (bT (he a s σ H _ I h) λv i ⟨x,H1,J,j,n⟩=>?_);refine wpAny_Slice (bT (hl a i σ H1 _ J n) λvl g ⟨l,H2,G,p,m⟩=>bT (hu a g σ H2 _ G m) λvu c ⟨u,d,D,o,k⟩=>?_);rw[evalPart_none];refine q05 ?_;have C:Inv X a σ d {c with heap:=c.heap.push {cls:=.type "slice",data:=.fields #[vl,vu,.none]} }:=D.kept (t':=c.toks) λb ob q=>K2 _ q;obtain⟨T,id,B,y,z⟩:=hr a {c with heap:=c.heap.push {cls:=.type "slice",data:=.fields #[vl,vu,.none]} } σ d x v vl vu l u c.heap.objs.size Q C j (Heap.IsSliceOf.new ..) p o k;show wpAny (model X.prog X.w) X.A (subscriptTail e (.Slice lo hi none p2) v (.ref c.heap.objs.size)) (EP X a σ Q) X.xe {c with heap:=c.heap.push {cls:=.type "slice",data:=.fields #[vl,vu,.none]} };exact tail_any (ops:=[.ref c.heap.objs.size,v]) y B z (by with_unfolding_all rfl)
def pW(xs:List V)(lo hi:Option Int):List V:=(xs.drop (HT.sIx xs.length 0 lo)).take (HT.sIx xs.length xs.length hi-HT.sIx xs.length 0 lo)
theorem vz(xs:List V)(lo hi:Option Int):(pW xs lo hi).length<=xs.length:=by
 unfold pW;rw[LC,LD];omega
end
def Gb(n:Nat)(i:Int):Option Nat:=if 0<=i then(if i<n then some i.toNat else none) else if -(n:Int)<=i then some (i+n).toNat else none
def pJ{α:Type}(xs:List α)(i:Int):Option α:=(Gb xs.length i).bind λj=>xs[j]?
theorem D6{n:Nat}{j:Nat}(h:Gb n i=some j):seqIndex? i n=some j/\j<n/\-(n:Int)<=i/\i<n:=by
 unfold Gb at h
 by_cases a:0<=i
 ·rw[q07 a]at h
  by_cases h1:i<n
  ·rw[q07 h1]at h
   have e:i.toNat=j:=q0S h;exact⟨by rw[seqIndex_of a h1,e],⋯,⋯,h1⟩
  ·rw[q06 h1]at h;cases h
 ·rw[q06 a]at h
  by_cases h1:-(n:Int)<=i
  ·rw[q07 h1]at h
   have e:(i+n).toNat=j:=q0S h;exact⟨by rw[seqIndex_neg ⋯ h1,e],⋯,h1,⋯⟩
  ·rw[q06 h1]at h;cases h
theorem sS{α:Type}{xs:List α}{v:α}(h:pJ xs i=some v):∃j,seqIndex? i xs.length=some j/\xs[j]?=some v/\j<xs.length/\-(xs.length:Int)<=i/\i<xs.length:=by
 unfold pJ at h;cases e:Gb xs.length i with
 |none=>rw[e]at h;cases h
 |some j=>
  rw[e]at h;obtain⟨h1,h2,b,a⟩:=D6 e;exact⟨j,h1,h,h2,b,a⟩
theorem bV{α:Type}{xs:List α}{j:Nat}{v:α}(h:xs[j]?=some v):pJ xs (j:Int)=some v:=by
 have hj:j<xs.length:=(K1.mp h).1;have e:Gb xs.length (j:Int)=some j:=by
  unfold Gb;rw[q07 ⋯,q07 ⋯];simp
 unfold pJ;rw[e];exact h
def Dm(b:Expr):Prop:=∀o i,subscripted b false o i=operate [o,i] (getItem o i)
def F9(X:Cx)(r:R2):Prop:=
 ∀(value slice:Expr) (pins:LX) (s:LZ) (σ:St) (H:Hp) (x y:V) (v u:Value) (Q:VK),Inv X pins σ H s->bh x v->bh y u->r x y H Q ->
  subscripted slice false v u=operate [v,u] (getItem v u)->wpAny (model X.prog X.w) X.A (subscriptTail value slice v u) (EP X pins σ Q) X.xe s
def Hh(X:Cx)(id:String)(r:V->List V->Hp->VK->Prop):Prop:=
 ∀(pins:LX) (s:LZ) (σ:St) (H:Hp) (x:V) (xs:List V) (v:Value) (us:L4) (Q:VK),Inv X pins σ H s->bh x v->bc xs us->r x xs H Q ->
  wpAny (model X.prog X.w) X.A (call (.builtin id) (v::us)) (EP X pins σ Q) X.xe s
section
variable {X:Cx}{a b:Expr}{ta tb:TE}{pos:Pos}
theorem ba(hr:F9 X r)(ha:PE X a ta)(hb:PE X b tb)(hs:Dm b):PE X (.Subscript a b pos) (EU r ta tb):=by
 intro c s σ H Q I h;exact Subscript_ (Fo ha hb I h λv u d x y H2 i g e q=>hr a b c d σ H2 x y v u Q i g e q (hs _ _))
def yL(K:LW):R2:=λx y H Q=>∃p xs i v,x=.ref p/\y=.int i/\aR K H p xs/\pJ xs i=some v/\Q v H
def zF(K:LW):R2:=λx y H Q=>∃p xs i v,x=.ref p/\y=.int i/\gG K H p xs/\pJ xs i=some v/\Q v H
def FT:R2:=λx y H Q=>∃z i c,x=.str z/\y=.int i/\z.length<=sizeLine/\pJ z.cps.toList i=some c/\Q (.str ⟨#[c]⟩) H
theorem yo:F9 X (yL X.K):=by
 intro value slice a s σ H x y v u Q I rx ry h hs;obtain⟨p,xs,i,z,rfl,rfl,m,o,q⟩:=h;cases rx;obtain⟨t,rfl⟩:=ry;obtain⟨d,r,c,hz⟩:=I.list m;obtain⟨j,h1,h2,h3,C,B⟩:=sS o;obtain⟨w,k,b⟩:=r.get h2;have n:=r.length;have hn:=n_;have fin:EP X a σ Q w s:=⟨z,H,I,b,q⟩
 by_cases g:0<=i
 ·have e:i.toNat=j:=by
   rw[seqIndex_of g B]at h1;exact q0S h1
  exact item_listR c.isList g ⋯ (by rw[e];simpa using k) fin hs
 ·have e:(i+(d.toArray.size:Int)).toNat=j:=by
   rw[seqIndex_neg ⋯ C]at h1;rw[K9,<- n];exact q0S h1
  exact subscriptTail_builtinR (x:=w) c.isList.typeIs slot_list_getitem.lookup
   (wpAny_getItem_list_neg (Q:=λr l=>r=w/\EP X a σ Q r l) c.isList ⋯ (by rw[K9]<;>omega) ⋯ (by rw[e];simpa using k) ⟨rfl,fin⟩) hs
theorem FW:F9 X (zF X.K):=by
 intro value slice a s σ H x y v u Q I rx ry h hs;obtain⟨p,xs,i,z,rfl,rfl,e,k,q⟩:=h;cases rx;obtain⟨t,rfl⟩:=ry;obtain⟨its,r,c,hz⟩:=I.tuple e;obtain⟨j,h1,h2,h3,h4,h5⟩:=sS k;obtain⟨w,l,b⟩:=r.get h2;have g:=r.length;have hn:=n_;have fin:EP X a σ Q w s:=⟨z,H,I,b,q⟩;exact subscriptTail_builtinR (x:=w) c.typeIs slot_tuple_getitem.lookup
  (getItem_tuple (j:=j) (Q:=λr d=>r=w/\EP X a σ Q r d) c ⋯ ⋯ (by rw[K9,<- g];exact h1) (by simpa using l) ⟨rfl,fin⟩) hs
theorem oq:F9 X FT:=by
 intro value slice pins s σ H x y v u Q I rx ry h hs;obtain⟨z,i,c,rfl,rfl,hz,b,q⟩:=h;obtain⟨t,rfl⟩:=rx;obtain⟨t',rfl⟩:=ry;obtain⟨j,h1,h2,h3,e,d⟩:=sS b;have a:z.cps.toList.length=z.length:=by simp[Str.length]
 rw[a]at h1 e d;have hn:=n_;exact tail_any (typeIs_str s z t) slot_str_getitem.lookup (getItem_str (c:=c) (by
  have k:decide (i < -(2 ^ 63:Int))=false:=q08 ⋯;have g:decide (i≥2 ^ 63)=false:=q08 ⋯;rw[k,g,Bool.or_false]) (by rw[h1];simpa using h2) ⟨.str ⟨#[c]⟩,H,I.tok _,⟨_,rfl⟩,q⟩) hs
theorem ug(lo hi:Option Int)(n:Nat):(sliceBounds lo hi none n).1=((HT.sIx n 0 lo:Nat):Int)/\(sliceBounds lo hi none n).2.1=((HT.sIx n n hi:Nat):Int)/\(sliceBounds lo hi none n).2.2=1:=by
 refine⟨?_,?_,rfl⟩
 ·cases lo with
  |none=>simp[sliceBounds,HT.sIx]
  |some i=>
   simp only[sliceBounds,HT.sIx,Option.getD_none,show(1:Int)>0 by decide,if_true]
   by_cases h:i<0
   ·simp only[h,if_true]<;>omega
   ·simp only[h,if_false]<;>omega
 ·cases hi with
  |none=>simp[sliceBounds,HT.sIx]
  |some i=>
   simp only[sliceBounds,HT.sIx,Option.getD_none,show(1:Int)>0 by decide,if_true]
   by_cases h:i<0
   ·simp only[h,if_true]<;>omega
   ·simp only[h,if_false]<;>omega
theorem pZ(its:L4)(lo hi:Option Int):slicePick its.toArray lo hi none=((its.drop (HT.sIx its.length 0 lo)).take (HT.sIx its.length its.length hi-HT.sIx its.length 0 lo)).toArray:=by
 obtain⟨h1,h2,a⟩:=ug lo hi its.toArray.size;unfold slicePick;rw[h1,h2,a];simp only[sliceRange_one,pick_run,K9]<;>rfl
def EV(K:LW):V->Option Int->Option Int->Hp->VK->Prop:=λx lo hi H Q=>∃a xs,x=.ref a/\aR K H a xs/\∀p,H p=none->Q (.ref p) (aG H p (.lst (pW xs lo hi)))
theorem uq:Hv X (EV X.K):=by
 intro pins s σ H x v vl vu lo hi sl Q I rx hs pl pu h;obtain⟨a,c,rfl,i,q⟩:=h;cases rx;obtain⟨its,r,e,g⟩:=I.list i;have d:=r.length;refine⟨"list",_,slot_list_getitem.lookup,e.isList.typeIs,?_⟩;refine wpAny_getItem_list_slice e.isList hs pl pu .none (by simp) ?_ (by rw[K9]<;>omega);rw[pZ,<- d];refine⟨.ref s.heap.objs.size,_,I.laid (t':=s.toks) (o:=.lst (pW c lo hi)) (λb ob q=>K2 _ q) (Ln _) ?_,rfl,q _ (I.hok.fresh (Ln _))⟩;exact⟨Lv (vz c lo hi) g,_,0,(r.drop (HT.sIx c.length 0 lo)).take (HT.sIx c.length c.length hi-HT.sIx c.length 0 lo),K8 _ rfl⟩
def iH:V->Bool
 | .non=>true
 | .bl _=>true
 | .int _=>true
 | .str _=>true
 |_=>false
def wY:V->V->Bool
 | .non,.non=>true
 | .bl a,.bl b=>a==b
 | .bl a,.int b=>(if a then 1 else 0)==b
 | .int a,.bl b=>a==(if b then 1 else 0)
 | .int a,.int b=>a==b
 | .str a,.str b=>a==b
 |_,_=>false
theorem hU(ry:bh y u)(rx:bh x v)(fy:iH y=true)(fx:iH x=true):SeqAt.EqAt A s u v (wY y x):=by
 cases y with
 |non=>
  cases ry;cases x with
  |non=>cases rx;exact SeqAt.EqAt.same _
  |bl b=>cases rx;exact SeqAt.EqAt.none_bool b
  |int b=>obtain⟨t,rfl⟩:=rx;exact SeqAt.EqAt.none_int b t
  |str b=>obtain⟨t,rfl⟩:=rx;exact SeqAt.EqAt.none_str b t
  |_=>exact q0Q (show false=true from fx) Lp
 |bl a=>
  cases ry;cases x with
  |non=>cases rx;exact SeqAt.EqAt.bool_none a
  |bl b=>cases rx;exact SeqAt.EqAt.bool_bool a b
  |int b=>obtain⟨t,rfl⟩:=rx;exact SeqAt.EqAt.bool_int a b t
  |str b=>obtain⟨t,rfl⟩:=rx;exact SeqAt.EqAt.bool_str a b t
  |_=>exact q0Q (show false=true from fx) Lp
 |int a=>
  obtain⟨c,rfl⟩:=ry;cases x with
  |non=>cases rx;exact SeqAt.EqAt.int_none a c
  |bl b=>cases rx;exact SeqAt.EqAt.int_bool a c b
  |int b=>obtain⟨t,rfl⟩:=rx;exact SeqAt.EqAt.int_int a c b t
  |str b=>obtain⟨t,rfl⟩:=rx;exact SeqAt.EqAt.int_str a c b t
  |_=>exact q0Q (show false=true from fx) Lp
 |str a=>
  obtain⟨c,rfl⟩:=ry;cases x with
  |non=>cases rx;exact SeqAt.EqAt.str_none a c
  |bl b=>cases rx;exact SeqAt.EqAt.str_bool a c b
  |int b=>obtain⟨t,rfl⟩:=rx;exact SeqAt.EqAt.str_int a c b t
  |str b=>obtain⟨t,rfl⟩:=rx;exact SeqAt.EqAt.str_str a c b t
  |_=>exact q0Q (show false=true from fx) Lp
 |_=>exact q0Q (show false=true from fy) Lp
def DZ(x:V)(u:Value):Bool:=match u with
 | .none=>wY .non x
 | .bool b=>wY (.bl b) x
 | .int i _=>wY (.int i) x
 | .str z _=>wY (.str z) x
 |_=>false
theorem Ca(r:bh y u)(f:iH y=true):DZ x u=wY y x:=by
 cases y with
 |non=>cases r;rfl
 |bl b=>cases r;rfl
 |int i=>obtain⟨t,rfl⟩:=r;rfl
 |str z=>obtain⟨t,rfl⟩:=r;rfl
 |_=>exact q0Q (show false=true from f) Lp
theorem rP:∀{xs:List V} {us:L4},bc xs us->xs.all iH=true->us.any (DZ x)=xs.any λy=>wY y x
 |_,_,.nil,_=>rfl
 |y::xs,u::us,.cons r t,f=>by
  rw[List.all_cons,q0O]at f;rw[List.any_cons,List.any_cons,Ca r f.1,rP t f.2]
theorem ny(rx:bh x v)(fx:iH x=true):∀{xs:List V} {us:L4},bc xs us->xs.all iH=true->∀u∈us,SeqAt.EqAt A s u v (DZ x u)
 |_,_,.nil,_=>λu hu=>by cases hu
 |y::xs,u::us,.cons r t,f=>λu' hu=>by
  rw[List.all_cons,q0O]at f;rcases Lf.mp hu with rfl | hu
  ·rw[Ca r f.1];exact hU r rx f.1 fx
  ·exact ny rx fx t f.2 u' hu
def Gw(x:V)(xs:List V):Bool:=xs.any λy=>wY y x
def Ir(K:LW)(neg:Bool):R2:=λx y H Q=>∃p xs,y=.ref p/\(aR K H p xs\/gG K H p xs)/\iH x=true/\xs.all iH=true/\Q (.bl (if neg then !Gw x xs else Gw x xs)) H
theorem rS:bD X (compareOp .NotIn) (Ir X.K true):=by
 intro pins s σ H x y v u Q I rx ry h;obtain⟨p,xs,rfl,hq,d,fs,q⟩:=h;cases ry;rcases hq with hq | hq
 ·obtain⟨a,r,b,e⟩:=I.list hq
  refine SeqAt.notIn_listAt (DZ x) b.isList (λw c=>ny rx d r fs w (by simpa using c)) ⟨.bl _,H,I,rfl,?_⟩;rw[show a.toArray.any (DZ x)=a.any (DZ x) by simp,rP r fs];exact q
 ·obtain⟨a,r,b,e⟩:=I.tuple hq
  refine SeqAt.notIn_tupleAt (DZ x) b (λw c=>ny rx d r fs w (by simpa using c)) ⟨.bl _,H,I,rfl,?_⟩;rw[show a.toArray.any (DZ x)=a.any (DZ x) by simp,rP r fs];exact q
theorem sr:eM X (.builtin "len") (λxs H Q=>∃p ys,xs=[.ref p]/\(aR X.K H p ys\/gG X.K H p ys)/\Q (.int ys.length) H):=by
 intro pins s σ H xs us Q I r h;obtain⟨p,ys,rfl,hq,q⟩:=h;obtain⟨u,rfl,e⟩:=ou r;cases e;have hn:=n_;rcases hq with hq | hq
 ·obtain⟨d,b,c,g⟩:=I.list hq
  have a:=b.length;exact Calls.call_len_list c.isList (by simp only[K9]<;>omega) ⟨.int ys.length,H,I.tok _,⟨s.toks+1,by rw[K9,a]⟩,q⟩
 ·obtain⟨d,b,c,g⟩:=I.tuple hq
  have a:=b.length;exact len_tuple c (by simp only[K9]<;>omega) ⟨.int ys.length,H,I.tok _,⟨s.toks+1,by rw[K9,a]⟩,q⟩
theorem ur:eM X (.builtin "len") (λxs H Q=>∃z,xs=[.str z]/\z.length<=sizeLine/\Q (.int z.length) H):=by
 intro pins s σ H xs us Q I r h;obtain⟨z,rfl,hz,q⟩:=h;obtain⟨u,rfl,t,rfl⟩:=ou r;have hn:=n_;exact len_str ⋯ ⟨.int z.length,H,I.tok _,⟨_,rfl⟩,q⟩
theorem c8:eM X (.type "list") (λxs H Q=>∃p ys,xs=[.ref p]/\(aR X.K H p ys\/gG X.K H p ys)/\∀l,H l=none->Q (.ref l) (aG H l (.lst ys))):=by
 intro i s σ H xs us Q I r h;obtain⟨p,ys,rfl,hq,q⟩:=h;obtain⟨u,rfl,z⟩:=ou r;cases z;have fin:∀(a:L4),bc ys a->ys.length<=sizeLine->∀(c:Heap) (g:Nat),(∀b o',s.heap.get? b=some o'->c.get? b=some o') ->
   c.get? s.heap.objs.size=some {cls:=.type "list",dict:=none,data:=.seq a.toArray g,slots:=#[]}->EP X i σ Q (.ref s.heap.objs.size) {s with heap:=c }:=λa d j c g kp e=>
  ⟨.ref s.heap.objs.size,_,I.laid (t':=s.toks) kp (Ln _) (show bK X.prog X.w _ c _ (.lst ys) from⟨j,a,g,d,e⟩),rfl,q _ (I.hok.fresh (Ln _))⟩
 rcases hq with hq | hq
 ·obtain⟨a,d,m,j⟩:=I.list hq
  have k:=d.length;obtain⟨o,v,y,n,x⟩:=m.isList;exact call_list_seq p (.inl rfl) v y x (λc g kp e=>fin a d j c g kp e) (by simp only[K9]<;>omega)
 ·obtain⟨a,d,m,j⟩:=I.tuple hq
  have k:=d.length;obtain⟨o,v,y,n,x⟩:=m;exact call_list_seq p (.inr rfl) v y x (λc g kp e=>fin a d j c g kp e) (by simp only[K9]<;>omega)
def Io(K:LW)(T:String)(x:V)(H:Hp):Prop:=match x with
 | .str _=>T="str"
 | .int _=>T="int"
 | .ref p=>(T="list"/\∃xs,aR K H p xs)\/(T="tuple"/\∃o,K.lookup p=some o/\o.cls=.type "tuple"/\o.dict=none) \/
   (T="dict"/\((∃kvs,H p=some (.dK kvs))\/∃kvs,H p=some (.dT kvs)))\/(T="set"/\∃S n,H p=some (.set S n))
 |_=>False
theorem FQ{pins:LX}{σ:St}(I:Inv X pins σ H s)(r:bh x v)(ty:Io X.K T x H) :
  s.TypeIs v T/\∀a,v=.ref a->∃ob,s.heap.get? a=some ob/\ob.dict=none:=by
 cases x with
 |str z=>
  obtain⟨t,rfl⟩:=r;cases(show T="str" from ty);exact⟨typeIs_str s z t,λ_ e=>nomatch e⟩
 |int i=>
  obtain⟨t,rfl⟩:=r;cases(show T="int" from ty);exact⟨typeIs_int s i t,λ_ e=>nomatch e⟩
 |ref p=>
  cases r;rcases ty with⟨rfl,xs,m⟩ | ⟨rfl,o,b,q,j⟩ | ⟨rfl,b⟩ | ⟨rfl,S,n,b⟩
  ·obtain⟨its,_,l,_⟩:=I.list m
   refine⟨l.isList.typeIs,λa e=>?_⟩;cases e;obtain⟨o,n,e,c,j,_⟩:=l;exact⟨o,e,j⟩
  ·refine⟨⟨o,I.kIn p o b,q⟩,λa e=>?_⟩
   cases e;exact⟨o,I.kIn _ o b,j⟩
  ·have z:∃o,s.heap.get? p=some o/\o.ExactDict:=by
    rcases b with⟨g,b⟩ | ⟨g,b⟩
    ·obtain⟨_,_,_,_,o,_,_,e,d,_⟩:=I.hok p _ b
     exact⟨o,e,d⟩
    ·obtain⟨_,_,_,_,o,_,_,e,d,_⟩:=I.hok p _ b
     exact⟨o,e,d⟩
   obtain⟨o,e,d⟩:=z;refine⟨⟨o,e,d.1⟩,λa k=>?_⟩;cases k;exact⟨o,e,d.2.1⟩
  ·obtain⟨o,_,_,_,e,d,_⟩:=I.hok p _ b
   refine⟨⟨o,e,d.1⟩,λa k=>?_⟩;cases k;exact⟨o,e,d.2.1⟩
 |_=>exact False.elim ty
def G1(K:LW)(T:String)(r:V->List V->Hp->VK->Prop)(to:TE)(t:TA):TE:=λσ H Q=>to σ H λx H1=>Io K T x H1/\t σ H1 λxs H2=>r x xs H2 Q
variable {o e:Expr}{es:Md}{to:TE}{t:TA}{name:Str}{apos cpos:Pos}{T id:String}{r:V->List V->Hp->VK->Prop}
theorem gt(pa:PlainAttrs T)(slot:Slot T name id)(hty:typeOf (.builtin id)=pure (.type "method_descriptor"))(hm:Hh X id r)(ho:PE X o to)(ha:PA X (e::es) t)
  (hbase:autoParam (attributeBase o name X.env (eval o X.env)=eval o X.env) zz0._auto_1)
  (hfew:autoParam (((backTo cpos (starEach (e::es) X.env)).all (λx=>!x.1)&&(backToKw cpos (keywordEach [] X.env)).all (λx=>x.1.isSome)
   && decide ((e::es).length+([]:List Keyword).length+(if([]:List Keyword).isEmpty then 0 else 1)<30))=true) zz0._auto_1)
  (hline:autoParam ((apos.endLine==cpos.line)=true) zz0._auto_1) (hs:autoParam (starEach (e::es) X.env=(false,eval e X.env)::starEach es X.env) zz0._auto_1) (hplain:autoParam ((backTo cpos (starEach es X.env)).any (·.1)=false) zz0._auto_1) :
  PE X (.Call (.Attribute o name apos) (e::es) [] cpos) (G1 X.K T r to t):=by
 intro a s σ H Q I h;refine wpAny_Call_method_late hbase hfew hline rfl (bT (ho a s σ H _ I h) λv i ⟨x,H1,d,b,ty,l⟩=>?_);obtain⟨h1,h2⟩:=FQ d b ty;refine⟨T,id,pa,slot,hty,h1,h2,?_⟩;have c:=ha cpos a i σ H1 _ d l;rw[hs]at c ⊢;refine Calls.callWith_builtin (by show(false||(backTo cpos (starEach es X.env)).any (·.1))=false;rw[hplain]<;>rfl) (Calls.evalArgs_plain ?_);exact bT c λus g ⟨vs,H2,m,j,k⟩=>hm a g σ H2 x vs v us Q m b j k
end
def Hj(X:Cx)(id:String)(r:V->List V->Hp->VK->Prop):Prop:=
 ∀(pins:LX) (s:LZ) (σ:St) (H:Hp) (x:V) (xs:List V) (v:Value) (us:L4) (Q:VK),Inv X pins σ H s->bh x v->bc xs us->r x xs H Q ->
  wpAny (model X.prog X.w) X.A (call (.builtin id) (v::us)) (EP X pins σ Q) X.xe s
theorem bc.one{x:V}{us:L4}(h:bc [x] us):∃u,us=[u]/\bh x u:=by
 cases h with | cons r h=>cases h;exact⟨_,rfl,r⟩
theorem bc.two{x y:V}{us:L4}(h:bc [x,y] us):∃u v,us=[u,v]/\bh x u/\bh y v:=by
 cases h with | cons r h=>obtain⟨u,rfl,q⟩:=bc.one h;exact⟨_,_,rfl,r,q⟩
section
variable {X:Cx}{pins:LX}{σ:St}{H:Hp}{s:LZ}{l b:Addr}{xs ys zs:List V}
theorem Inv.lset{its its':L4}{f:Array Value->Array Value}{t':Nat}(I:Inv X pins σ H s)(hH:H l=some (.lst xs))
  (e:s.heap.get? l=some {cls:=.type "list",data:=.seq its.toArray n}) (hf:f its.toArray=its'.toArray) (hv:bc ys its') (hz:ys.length<=sizeLine) :
  Inv X pins σ (aG H l (.lst ys)) {s with heap:=s.heap.update l (Obj.mapSeq f),toks:=t' }:=by
 have q:=PySem.IsL.update e f;rw[hf]at q;refine I.write (x:=l) (e:=l) (by rw[hH];exact trivial) (.inl rfl) (λb' u b a=>(K7 s.heap (Obj.mapSeq f) (Ne.symm b)).trans a) ⟨_,q⟩ ?_;exact⟨hz,its',_,hv,q⟩
theorem Inv.lnew{its:L4}{t':Nat}(I:Inv X pins σ H s)(hv:bc ys its)(hz:ys.length<=sizeLine) :
  Inv X pins σ (aG H s.heap.objs.size (.lst ys)) {s with heap:=s.heap.push {cls:=.type "list",data:=.seq its.toArray},toks:=t' }:=
 I.laid (λ_ _ q=>K2 _ q) (Ln _) ⟨hz,its,0,hv,K8 _ rfl⟩
theorem Inv.fresh(I:Inv X pins σ H s):H s.heap.objs.size=none:=I.hok.fresh (Ln _)
theorem Inv.lstM(I:Inv X pins σ H s)(hH:H l=some (.lst xs)):xs.length<=sizeLine/\∃(its:L4) (n:Nat),bc xs its/\xs.length=its.length/\s.heap.get? l=some {cls:=.type "list",data:=.seq its.toArray n}:=by
 obtain⟨z,its,n,r,e⟩:=I.hok l _ hH;exact⟨z,its,n,r,r.length,e⟩
theorem AH{n:Nat}(h:n<=sizeLine):Builtin.List.listTooLong n=false:=by
 unfold Builtin.List.listTooLong;exact q08 ⋯
end
section
variable {X:Cx}
def rW:V->List V->Hp->VK->Prop:=λx vs H Q=>∃l xs y,x=.ref l/\vs=[y]/\H l=some (.lst xs)/\xs.length<sizeLine/\Q .non (aG H l (.lst (xs++[y])))
theorem qB:Hj X "list.append" rW:=by
 intro pins s σ H x vs v us Q I rx rv h;obtain⟨l,xs,y,rfl,rfl,b,hz,q⟩:=h;cases rx;obtain⟨u,rfl,c⟩:=rv.one;obtain⟨z,a,n,r,hl,e⟩:=I.lstM b;refine call_meets F.slot_list_append ⟨_,e,rfl⟩ F.entry_list_append (F.args_list_append_2 _ _) (PySem.list_append l a.toArray n u (by rw[K9];omega)) ⟨e,?_⟩;refine⟨.non,_,I.lset (its':=a++[u]) b e (by simp) (r.append (.cons c .nil)) ?_,rfl,q⟩;rw[Lm,q0Z];omega
theorem q03{e:Expr}{es:List Expr}{to:TE}{t:TA}{apos cpos:Pos}(ho:PE X o to)(ha:PA X (e::es) t)
  (hbase:autoParam (attributeBase o "append" X.env (eval o X.env)=eval o X.env) zz0._auto_1)
  (hfew:autoParam (((backTo cpos (starEach (e::es) X.env)).all (λx=>!x.1)&&(backToKw cpos (keywordEach [] X.env)).all (λx=>x.1.isSome)
   && decide ((e::es).length+([]:List Keyword).length+(if([]:List Keyword).isEmpty then 0 else 1)<30))=true) zz0._auto_1)
  (hline:autoParam ((apos.endLine==cpos.line)=true) zz0._auto_1) (hs:autoParam (starEach (e::es) X.env=(false,eval e X.env)::starEach es X.env) zz0._auto_1) (hplain:autoParam ((backTo cpos (starEach es X.env)).any (·.1)=false) zz0._auto_1) :
  PE X (.Call (.Attribute o "append" apos) (e::es) [] cpos) (G1 X.K "list" rW to t):=gt PySem.F.plainAttrs_list PySem.F.slot_list_append PySem.F.type_list_append qB ho ha hbase hfew hline hs hplain
def tf:V->List V->Hp->VK->Prop:=λx vs H Q=>∃l b xs zs,x=.ref l/\vs=[.ref b]/\H l=some (.lst xs)/\H b=some (.lst zs)/\xs.length+zs.length<=sizeLine/\Q .non (aG H l (.lst (xs++zs)))
theorem lZ:Hj X "list.extend" tf:=by
 intro pins s σ H x vs v us Q I rx rv h;obtain⟨l,b,xs,zs,rfl,rfl,i,o,hz,q⟩:=h;cases rx;obtain⟨u,rfl,j⟩:=rv.one;cases j;obtain⟨z,c,n,r,hl,e⟩:=I.lstM i;obtain⟨z2,a,m,k,hl2,p⟩:=I.lstM o;have g:c.toArray.size+a.toArray.size<=sizeLine:=by rw[K9,K9];omega
 have d:¬ (!c.toArray.isEmpty&&Builtin.List.listTooLong (c.toArray.size+a.toArray.size))=true:=by
  rw[AH g,Bool.and_false];exact Lp
 refine call_meets F.slot_list_extend ⟨_,e,rfl⟩ F.entry_list_extend (F.args_list_extend_2 _ _)
  (AutoSeq1.list_extend_list_list_0 l c.toArray n b a.toArray m d (by rw[K9];omega) ⋯) ⟨e,p,?_⟩
 refine⟨.non,_,I.lset (its':=c++a) i e (by simp) (r.append k) ?_,rfl,q⟩;rw[Lm];omega
def Fw:R2:=λx y H Q=>∃l b xs zs,x=.ref l/\y=.ref b/\H l=some (.lst xs)/\H b=some (.lst zs)/\xs.length+zs.length<=sizeLine/\∀p,H p=none->Q (.ref p) (aG H p (.lst (xs++zs)))
theorem Cz:bD X (binaryOp .Add) Fw:=by
 intro pins s σ H x y v u Q I rx ry h;obtain⟨l,b,xs,zs,rfl,rfl,g,i,hz,q⟩:=h;cases rx;cases ry;obtain⟨z,c,n,r,hl,e⟩:=I.lstM g;obtain⟨z2,a,n2,d,hl2,k⟩:=I.lstM i;refine PySem.P.add_list e k ?_ (by rw[K9,K9];omega);have j:c.toArray++a.toArray=(c++a).toArray:=by simp
 rw[j];exact⟨.ref _,_,I.lnew (t':=s.toks) (r.append d) (by rw[Lm];omega),rfl,q _ I.fresh⟩
theorem DD{α:Type}(xs:List α)(k:Nat):(List.replicate k xs).flatten.length=k*xs.length:=by
 induction k with
 |zero=>simp
 |succ k ih=>rw[List.replicate_succ,List.flatten_cons,Lm,ih,Nat.succ_mul,Nat.add_comm]
end
section
variable {κ:Type}[DecidableEq κ]
def dF(kvs:List (κ×V))(k:κ):Option V:=(kvs.find? λkv=>decide (kv.1=k)).map (·.2)
def du(kvs:List (κ×V))(k:κ)(v:V):List (κ×V):=
 if(kvs.any λkv=>decide (kv.1=k))=true then kvs.map (λkv=>if kv.1=k then(kv.1,v) else kv) else kvs++[(k,v)]
theorem gw{p:κ×V}{r:List (κ×V)}{k:κ}(e:p.1=k):dF (p::r) k=some p.2:=by simp[dF,List.find?_cons,e]
theorem gq{p:κ×V}{r:List (κ×V)}{k:κ}(e:¬ p.1=k):dF (p::r) k=dF r k:=by simp[dF,List.find?_cons,e]
theorem gz(k:κ):∀kvs:List (κ×V),(kvs.any λkv=>decide (kv.1=k))=(dF kvs k).isSome
 | []=>rfl
 |p::r=>by
  rw[List.any_cons]
  by_cases e:p.1=k
  ·simp only[gw e,q09 e,Bool.true_or,Option.isSome_some]
  ·rw[gq e,q08 e,Bool.false_or];exact gz k r
theorem fO(kvs:List (κ×V))(k:κ)(v:V):(du kvs k v).length<=kvs.length+1:=by
 unfold du
 split
 ·rw[K3];omega
 ·rw[Lm,Lb,List.length_nil];omega
theorem CH{kvs:List (κ×V)}{k:κ}(v:V)(h:dF kvs k=none):du kvs k v=kvs++[(k,v)]:=by
 unfold du;rw[gz,h];exact q06 nofun
theorem iu.isSome_eq(r:iu o u):o.isSome=u.isSome:=by
 cases o with
 |none=>cases u with
  |none=>rfl
  |some _=>exact(show False from r).elim
 |some _=>cases u with
  |none=>exact(show False from r).elim
  |some _=>rfl
theorem iu.getD(r:iu o u)(rd:bh d d'):bh (o.getD d) (u.getD d'):=by
 cases o with
 |none=>cases u with
  |none=>exact rd
  |some _=>exact(show False from r).elim
 |some _=>cases u with
  |none=>exact(show False from r).elim
  |some _=>exact r
theorem KV.val{kvs:List (κ×V)}{vs:List (κ×Value)}(r:KV kvs vs)(k:κ):iu (dF kvs k) (valueAt vs k):=by
 unfold KV at r
 induction r with
 |nil=>exact True.intro
 | @cons p q ps qs h t ih=>
  obtain⟨h1,h2⟩:=h
  by_cases e:p.1=k
  ·have a:q.1=k:=h1.symm.trans e
   have b:valueAt (q::qs) k=some q.2:=by simp[valueAt,List.find?_cons,a]
   rw[gw e,b];exact h2
  ·have a:¬ q.1=k:=λz=>e (h1.trans z)
   have b:valueAt (q::qs) k=valueAt qs k:=by simp[valueAt,List.find?_cons,a]
   rw[gq e,b];exact ih
theorem KV.any{kvs:List (κ×V)}{vs:List (κ×Value)}(r:KV kvs vs)(k:κ):(kvs.any λkv=>decide (kv.1=k))=vs.any λkv=>decide (kv.1=k):=by
 unfold KV at r
 induction r with
 |nil=>rfl
 |cons h t ih=>rw[List.any_cons,List.any_cons,ih,h.1]
theorem KV.repl{kvs:List (κ×V)}{vs:List (κ×Value)}(r:KV kvs vs)(k:κ){y:V}{u:Value}(ry:bh y u) :
  KV (kvs.map λkv=>if kv.1=k then(kv.1,y) else kv) (vs.map λkv=>if kv.1=k then(kv.1,u) else kv):=by
 unfold KV at r ⊢
 induction r with
 |nil=>exact .nil
 | @cons p q ps qs h t ih=>
  rw[Lu,Lu];refine .cons ?_ ih;obtain⟨h1,h2⟩:=h
  by_cases e:p.1=k
  ·rw[q07 e,q07 (h1.symm.trans e)];exact⟨h1,ry⟩
  ·rw[q06 e,q06 (λz=>e (h1.trans z))];exact⟨h1,h2⟩
theorem KV.put{kvs:List (κ×V)}{vs:List (κ×Value)}(r:KV kvs vs)(k:κ){y:V}{u:Value}(ry:bh y u):KV (du kvs k y) (stored vs k u):=by
 unfold du stored;rw[r.any k]
 by_cases e:(vs.any λa=>decide (a.1=k))=true
 ·rw[q07 e,q07 e];exact r.repl k ry
 ·rw[q06 e,q06 e];exact Paired.snoc r ⟨rfl,ry⟩
theorem KV.keys{kvs:List (κ×V)}{vs:List (κ×Value)}(r:KV kvs vs):kvs.map (·.1)=vs.map (·.1):=by
 unfold KV at r
 induction r with
 |nil=>rfl
 |cons h t ih=>rw[Lu,Lu,ih,h.1]
theorem KV.length{kvs:List (κ×V)}{vs:List (κ×Value)}(r:KV kvs vs):kvs.length=vs.length:=Paired.length r
end
theorem mq{u:Value}(r:bh (kV k) u):(bQ P w).is k u=true:=by
 cases k with
 |inl i=>obtain⟨t,e⟩:=(show ∃t,u=Value.int i t from r);subst e;exact vK P w i t
 |inr x=>obtain⟨t,e⟩:=(show ∃t,u=Value.str x t from r);subst e;exact vT P w x t
theorem rK:∀{ks:List cP} {us:L4},bc (ks.map kV) us->ItemsAre (bQ P w) ks us
 | [],_,r=>by rw[List.map_nil]at r;cases r;exact .nil
 |k::ks,_,r=>by
  rw[Lu]at r;cases r with
  |cons h t=>exact .cons (mq h) (rK t)
abbrev KT(H:Hp):List (List cP×V)->List (List cP×Addr×Value)->Prop:=Paired λp q=>p.1=q.1/\H q.2.1=some (.tup (p.1.map kV))/\bh p.2 q.2.2
theorem KT.val(r:KT H kvs xs)(k:List cP):iu (dF kvs k) ((atKey xs k).map (·.2)):=by
 induction r with
 |nil=>exact True.intro
 | @cons p q ps qs h t ih=>
  obtain⟨h1,_,h2⟩:=h
  by_cases e:p.1=k
  ·have a:q.1=k:=h1.symm.trans e
   have b:atKey (q::qs) k=some q.2:=by simp[atKey,List.find?_cons,a]
   rw[gw e,b];exact h2
  ·have a:¬ q.1=k:=λz=>e (h1.trans z)
   have b:atKey (q::qs) k=atKey qs k:=by simp[atKey,List.find?_cons,a]
   rw[gq e,b];exact ih
theorem KT.repl(r:KT H kvs xs)(k:List cP){y:V}{u:Value}(ry:bh y u) :
  KT H (kvs.map λkv=>if kv.1=k then(kv.1,y) else kv) (xs.map (putAt k u)):=by
 induction r with
 |nil=>exact .nil
 | @cons p q ps qs h t ih=>
  rw[Lu,Lu];refine .cons ?_ ih;obtain⟨h1,h2,a⟩:=h;unfold putAt
  by_cases e:p.1=k
  ·rw[q07 e,q07 (h1.symm.trans e)];exact⟨h1,h2,ry⟩
  ·rw[q06 e,q06 (λz=>e (h1.trans z))];exact⟨h1,h2,a⟩
theorem KT.put(r:KT H kvs xs)(k:List cP){b:Addr}{y:V}{u:Value}(hb:H b=some (.tup (k.map kV)))(ry:bh y u) :
  KT H (du kvs k y) (storedH xs k b u):=by
 have e:(kvs.any λa=>decide (a.1=k))=(atKey xs k).isSome:=by
  rw[gz,(r.val k).isSome_eq,Option.isSome_map]
 unfold du storedH;rw[e]
 by_cases q:(atKey xs k).isSome=true
 ·rw[q07 q,q07 q];exact r.repl k ry
 ·rw[q06 q,q06 q];exact Paired.snoc r ⟨rfl,hb,ry⟩
theorem KT.keeps{H':Hp}(r:KT H kvs xs)(ht:∀b ys,H b=some (.tup ys)->H' b=some (.tup ys)):KT H' kvs xs:=
 Paired.mapP r λ_ _ z=>⟨z.1,ht _ _ z.2.1,z.2.2⟩
section
variable {P:L8}{w:Mb}{H:Hp}{h:Heap}{a:Addr}
theorem EL(ok:jh P w H h)(e:Rd H a u):bK P w H h a u:=e.ok ok
theorem my(ok:jh P w H h)(e:Rd H a (.dK kvs)):kvs.length<=sizeLine/\(a==sysModules)=false/\∃vs,KV kvs vs/\h.DictOf (bQ P w) a vs:=
 show bK P w H h a (.dK kvs) from EL ok e
theorem qK(ok:jh P w H h)(e:H a=some (.dK kvs)):kvs.length<=sizeLine/\(a==sysModules)=false/\∃vs,KV kvs vs/\h.DictOf (bQ P w) a vs:=my ok (.inl e)
theorem lJ{ks:List cP}(ok:jh P w H h)(e:H a=some (.tup (ks.map kV))):(tupleKind (bQ P w)).is h ks a:=by
 obtain⟨_,b,r,o,h1,h2,n,c⟩:=(show bK P w H h a (.tup (ks.map kV)) from ok a _ e);exact⟨o,b.toArray,n,h1,h2,c,by simpa using rK r⟩
theorem pi(ok:jh P w H h)(e:Rd H a (.dT kvs)):kvs.length<=sizeLine/\(a==sysModules)=false /\
  ∃xs,KT H kvs xs/\h.DictOfH (tupleKind (bQ P w)) a xs:=by
 obtain⟨z,y,xs,r,o,g,i,h1,h2,d,c,b⟩:=(show bK P w H h a (.dT kvs) from EL ok e);refine⟨z,y,xs,r,o,g,i,h1,h2,d,c,λx hx=>?_,b⟩;have all:∀{l:List (List cP×V)} {m:List (List cP×Addr×Value)},KT H l m->∀x∈m,(tupleKind (bQ P w)).is h x.1 x.2.1:=by
  intro l m q
  induction q with
  |nil=>intro x hx;exact nomatch hx
  | @cons p q ps qs hq t ih=>
   intro x hx;rcases Lf.mp hx with e | hx
   ·subst e
    exact lJ ok (by rw[<- hq.1];exact hq.2.1)
   ·exact ih x hx
 exact all r x hx
theorem GV(ok:jh P w H h)(e:H a=some (.dT kvs)):kvs.length<=sizeLine/\(a==sysModules)=false /\
  ∃xs,KT H kvs xs/\h.DictOfH (tupleKind (bQ P w)) a xs:=pi ok (.inl e)
end
def kC(H:Hp)(a:Addr)(y:V)(r:Option V):Prop:=
 (∃kvs k,Rd H a (.dK kvs)/\y=kV k/\r=dF kvs k)\/∃kvs k b,Rd H a (.dT kvs)/\y=.ref b/\H b=some (.tup (k.map kV))/\r=dF kvs k
def Ai(H:Hp)(a:Addr)(y v:V)(H':Hp):Prop:=
 (∃kvs k,H a=some (.dK kvs)/\y=kV k/\kvs.length<sizeLine/\H'=aG H a (.dK (du kvs k v))) \/
 ∃kvs k b,H a=some (.dT kvs)/\y=.ref b/\H b=some (.tup (k.map kV))/\kvs.length<sizeLine/\H'=aG H a (.dT (du kvs k v))
theorem kC.t{H:Hp}{k:List cP}(e:H a=some (.dT kvs))(eb:H b=some (.tup (k.map kV))):kC H a (.ref b) (dF kvs k):=.inr ⟨kvs,k,b,.inl e,rfl,eb,rfl⟩
theorem Ai.t{H:Hp}{k:List cP}{v:V}(e:H a=some (.dT kvs))(eb:H b=some (.tup (k.map kV)))(hl:kvs.length<sizeLine) :
  Ai H a (.ref b) v (aG H a (.dT (du kvs k v))):=.inr ⟨kvs,k,b,e,rfl,eb,hl,rfl⟩
section
variable {X:Cx}{pins:LX}{σ:St}{H:Hp}{s:LZ}{a:Addr}{y v:V}{u r:Value}{o:Option V}{A:Ma}{E:LV}
theorem Inv.big(I:Inv X pins σ H s):sysModules<s.heap.objs.size:=by
 have h:mainGlobals<s.heap.objs.size:=(I.mod.glob.keeps I.bk).lt;exact Nat.lt_trans nofun h
theorem zf{Q:LV}(hu:A.units+1<cLine)(I:Inv X pins σ H s)(g:kC H a y (some v))(ry:bh y u)(h:∀w' s',Inv X pins σ H s'->bh v w'->Q w' s') :
  wpAny (model X.prog X.w) A (getItem (.ref a) u) Q E s:=by
 rcases g with⟨i,k,e,n,l⟩ | ⟨i,k,b,e,n,B,l⟩
 ·subst n
  obtain⟨z,x,vs,d,q⟩:=my I.hok e;obtain⟨w',j,c⟩:=iu.some_of (v:=v) (o:=valueAt vs k) (by rw[l];exact d.val k);exact wpAny_getItem_of (mq ry) q.mapOf j (h w' _ (I.tok _) c)
 ·subst n
  cases(show u=Value.ref b from ry);obtain⟨z,x,r,d,q⟩:=pi I.hok e;obtain⟨w',j,c⟩:=iu.some_of (v:=v) (o:=(atKey r k).map (·.2)) (by rw[l];exact d.val k);obtain⟨p,w,m⟩:=Lr.mp j;refine wpAny_getItem_heap (tupleKind_room_in1 hu) (lJ I.hok B) q w ?_;rw[m];exact h w' _ (I.tok _) c
theorem Hq{Q:LV}(hu:A.units+1<cLine)(I:Inv X pins σ H s)(g:kC H a y o)(ry:bh y u)(h:∀s',Inv X pins σ H s'->Q (.bool o.isSome) s') :
  wpAny (model X.prog X.w) A (compareOp .In u (.ref a)) Q E s:=by
 rcases g with⟨d,k,e,j,l⟩ | ⟨d,k,b,e,j,n,l⟩
 ·subst j
  obtain⟨z,i,vs,c,m⟩:=my I.hok e;refine wpAny_in_of (mq ry) i m.mapOf ?_;rw[<- (c.val k).isSome_eq,<- l];exact h _ (I.tok _)
 ·subst j
  cases(show u=Value.ref b from ry);obtain⟨z,i,xs,c,m⟩:=pi I.hok e;refine wpAny_in_heap (tupleKind_room_in1 hu) (lJ I.hok n) i m ?_;have q:=(c.val k).isSome_eq;rw[Option.isSome_map]at q;rw[<- q,<- l];exact h _ (I.tok _)
theorem C4{Q:LV}(hu:A.units+1<cLine)(I:Inv X pins σ H s)(g:kC H a y o)(ry:bh y u)(h:∀s',Inv X pins σ H s'->Q (.bool (!o.isSome)) s') :
  wpAny (model X.prog X.w) A (compareOp .NotIn u (.ref a)) Q E s:=by
 rcases g with⟨d,k,e,j,l⟩ | ⟨d,k,b,e,j,n,l⟩
 ·subst j
  obtain⟨z,i,vs,c,m⟩:=my I.hok e;refine wpAny_notIn_of (mq ry) i m.mapOf ?_;rw[<- (c.val k).isSome_eq,<- l];exact h _ (I.tok _)
 ·subst j
  cases(show u=Value.ref b from ry);obtain⟨z,i,xs,c,m⟩:=pi I.hok e;refine wpAny_notIn_heap (tupleKind_room_in1 hu) (lJ I.hok n) i m ?_;have q:=(c.val k).isSome_eq;rw[Option.isSome_map]at q;rw[<- q,<- l];exact h _ (I.tok _)
theorem m_{t':Nat}{ob:HO}(I:Inv X pins σ H s)(mu:GI (H a))(hs:Heap.SameBut a s.heap h')(he:∃q,h'.get? a=some q)(new:bK X.prog X.w (aG H a ob) h' a ob) :
  Inv X pins σ (aG H a ob) {s with heap:=h',toks:=t' }:=
 I.write (x:=a) (e:=a) mu (.inl rfl) (λb q hb z=>(hs.2 b hb).trans z) he new
theorem xu{h':Heap}{kvs:List (cP×V)}(z:kvs.length<=sizeLine)(hd:(a==sysModules)=false)(rel:KV kvs vs)(dd:h'.DictOf (bQ P w) a vs) :
  bK P w H' h' a (.dK kvs):=⟨z,hd,vs,rel,dd⟩
theorem zc{Q:Unit->Shared->Prop}(hu:A.units+1<cLine)(I:Inv X pins σ H s)(g:Ai H a y v H')(ry:bh y u)(rv:bh v r)(h:∀s',Inv X pins σ H' s'->Q () s') :
  wpAny (model X.prog X.w) A (setItem (.ref a) u r) Q E s:=by
 rcases g with⟨i,k,e,x,l,B⟩ | ⟨i,k,b,e,x,J,l,B⟩
 ·subst x B
  obtain⟨z,w,vs,d,C⟩:=qK I.hok e;have n:vs.length<=sizeLine:=by rw[<- d.length];exact z
  have p:(du i k v).length<=sizeLine:=by have:=fO i k v;omega
  refine wpAny_setItem_pairs (hsz:=n) (mq ry) C λD j o=>h _ ?_;have M:∃q,D.get? a=some q:=let ⟨q,_,_,m,_⟩:=j;⟨q,m⟩
  exact m_ I (by rw[e];exact True.intro) o M (xu p w (d.put k rv) j)
 ·subst x B
  cases(show u=Value.ref b from ry);obtain⟨z,w,L,d,C⟩:=GV I.hok e;have n:L.length<=sizeLine:=by rw[<- Paired.length d];exact z
  have p:(du i k v).length<=sizeLine:=by have:=fO i k v;omega
  refine wpAny_setItem_heap (hsz:=n) (tupleKind_room_in1 hu) (lJ I.hok J) C λD j o=>h _ ?_;obtain⟨q,T,U,m,h2,S,R,_,O⟩:=j;refine m_ I (by rw[e];exact True.intro) o ⟨q,m⟩ ⟨p,w,_,(d.put k J rv).keeps λc ys G=>?_,q,T,U,m,h2,S,R,O⟩;rw[aq (qz G e (λz=>nomatch z))];exact G
end
section
variable {X:Cx}{pins:LX}{σ:St}{H:Hp}{s:LZ}{a:Addr}{kvs:List (cP×V)}{k:cP}{u:Value}{A:Ma}{E:LV}
theorem GS{Q:LV}(I:Inv X pins σ H s)(e:Rd H a (.dK kvs))(h:∀t s',Inv X pins σ H s'->Q (.int kvs.length t) s'):wpAny (model X.prog X.w) A (call (.builtin "len") [.ref a]) Q E s:=by
 obtain⟨z,c,vs,b,d⟩:=my I.hok e;refine call_len_dict c d (by rw[<- b.length];rw[q0W]at z;omega) ?_;rw[<- b.length];exact h _ _ (I.tok _)
end
def GC(i:Expr):Prop:=∀ov iv,subscripted i false ov iv=operate [ov,iv] (getItem ov iv)
theorem D4{prog:L8}{A:Ma}{env:Env}{value slice:Expr}{pos:Pos}{id:String}{Q:LV}
  (hl:typeLookup (.type T) "__getitem__"=pure (some (.builtin id))) (hs:GC slice)
  (h:wpAny (model prog w) A (eval value env) (λo s₁=>wpAny (model prog w) A (eval slice env) (λi s₂=>s₂.TypeIs o T/\wpAny (model prog w) A (getItem o i) Q E s₂) E s₁) E s) :
  wpAny (model prog w) A (eval (.Subscript value slice pos) env) Q E s:=by
 refine Subscript_ (q0X h (λo s₁ e=>q0X e (λi s₂ a=>?_) λ_ _ x=>x) λ_ _ x=>x);obtain⟨c,a⟩:=a;unfold subscriptTail;refine q04 ?_;rw[getitemInPython_of_ne c.not_modules];refine q04 (wpAny_specialOf c hl ?_);have fin:wpAny (model prog w) A (subscripted slice false o i) (λr b=>wpAny (model prog w) A (letTemporaryGo value o r >>= λ_=>pure r) Q E b) E s₂:=by
  rw[hs o i];exact wpAny_operating (q0X a (λr b d=>q04 (wpAny_letTemporaryGo (q05 d))) λ_ _ x=>x)
 first
  |exact q05 (q04 fin)
  |exact q04 (q05 (q04 fin))
  |exact q04 fin
theorem vf{pins:LX}{σ:St}(I:Inv X pins σ H s)(g:kC H a y o):s.TypeIs (.ref a) "dict":=by
 rcases g with⟨c,k,e,_,_⟩ | ⟨c,k,b,e,_,_,_⟩
 ·obtain⟨_,_,vs,_,d⟩:=my I.hok e
  exact d.typeIs
 ·obtain⟨_,_,xs,_,d⟩:=pi I.hok e
  exact d.typeIs
def Bz(td ty:TE):TE:=λσ H Q=>td σ H λx H1=>ty σ H1 λy H2=>∃a v,x=.ref a/\kC H2 a y (some v)/\Q v H2
def FI(ty td:TE):TE:=λσ H Q=>ty σ H λy H1=>td σ H1 λx H2=>∃a o,x=.ref a/\kC H2 a y o/\Q (.bl o.isSome) H2
def sH(ty td:TE):TE:=λσ H Q=>ty σ H λy H1=>td σ H1 λx H2=>∃a o,x=.ref a/\kC H2 a y o/\Q (.bl (!o.isSome)) H2
def Cw(td ty tv:TE):TS:=λD σ H=>tv σ H λv H1=>td σ H1 λx H2=>ty σ H2 λy H3=>∃a H4,x=.ref a/\Ai H3 a y v H4/\D.nx σ H4
section
variable {X:Cx}{o i e value:Expr}{pos pos' tpos:Pos}{td ty tv:TE}
theorem kx(hu:X.A.units+1<cLine)(ho:PE X o td)(hi:PE X i ty)(hs:GC i):PE X (.Subscript o i pos) (Bz td ty):=by
 intro b s σ H Q I h;refine D4 PySem.F.slot_dict_getitem.lookup hs (bT (ho b s σ H _ I h) λu e ⟨x,H1,q,k,m⟩=>bT (hi b e σ H1 _ q m) λiv s2 ⟨y,H2,d,j,a,v,n,g,l⟩=>?_);subst n;obtain rfl:u=Value.ref a:=k;exact⟨vf d g,zf hu d g j λw' s3 p c=>⟨v,H2,p,c,l⟩⟩
theorem xP(hu:X.A.units+1<cLine)(hi:PE X i ty)(ho:PE X o td):PC X .In i o (FI ty td):=by
 intro b s σ H Q I h;refine bT (hi b s σ H _ I h) λiv c ⟨y,H1,q,d,k⟩=>bT (ho b c σ H1 _ q k) λu s2 ⟨x,H2,p,e,a,l,m,g,j⟩=>?_;subst m;obtain rfl:u=Value.ref a:=e;exact Hq hu p g d λs3 n=>⟨.bl l.isSome,H2,n,rfl,j⟩
theorem k_(hu:X.A.units+1<cLine)(hi:PE X i ty)(ho:PE X o td):PC X .NotIn i o (sH ty td):=by
 intro b s σ H Q I h;refine bT (hi b s σ H _ I h) λiv c ⟨y,H1,q,d,k⟩=>bT (ho b c σ H1 _ q k) λu s2 ⟨x,H2,p,e,a,l,m,g,j⟩=>?_;subst m;obtain rfl:u=Value.ref a:=e;exact C4 hu p g d λs3 n=>⟨.bl (!l.isSome),H2,n,rfl,j⟩
theorem r_(hu:X.A.units+1<cLine)(ho:PE X o td)(hi:PE X i ty)(hv:PE X value tv)(hs:swapsWith value (some (.Subscript o i pos')) pos.line X.env=pure false) :
  PS X (.Assign [.Subscript o i pos'] value pos) (Cw td ty tv):=by
 intro b s σ H D I h;refine wpAny_Assign_Subscript (bT (hv b s σ H _ I h) λr d ⟨v,H1,B,k,n⟩=>bT (ho b d σ H1 _ B n) λu c ⟨x,H2,z,j,m⟩=>bT (hi b c σ H2 _ z m) λiv s3 ⟨y,H3,w,e,a,C,p,g,l⟩=>?_) hs;subst p;obtain rfl:u=Value.ref a:=j;exact zc hu w g e k λs4 q=>⟨σ,C,q,l⟩
end
theorem uZ(h:Heap)(hb:sysModules<h.objs.size):bK P w H (h.push {cls:=.type "dict",data:=.dict #[]}) h.objs.size (.dK []):=
 ⟨Lo _,beq_eq_false_iff_ne.mpr (Ne.symm (Lj hb)),[],.nil,Heap.DictOf.new h⟩
theorem Bd(h:Heap)(hb:sysModules<h.objs.size):bK P w H (h.push {cls:=.type "dict",data:=.dict #[]}) h.objs.size (.dT []):=
 ⟨Lo _,beq_eq_false_iff_ne.mpr (Ne.symm (Lj hb)),[],.nil,_,#[],0,K8 _ rfl,⟨rfl,rfl,rfl⟩,rfl,rfl,List.nodup_nil⟩
def wF:TE:=λ_ H Q=>∀p,H p=none->Q (.ref p) (aG H p (.dK []))
def wW:TE:=λ_ H Q=>∀p,H p=none->Q (.ref p) (aG H p (.dT []))
section
variable {X:Cx}{pos:Pos}
theorem nJ:PE X (.Dict [] [] pos) wF:=λpins s σ H Q I h=>
 wpAny_Dict_empty ⟨.ref s.heap.objs.size,_,I.laid (a:=s.heap.objs.size) (o:=.dK []) (t':=s.toks) (λ_ _ q=>K2 _ q) (Ln _) (uZ s.heap I.big),rfl,h _ (I.hok.fresh (Ln _))⟩
theorem uy:PE X (.Dict [] [] pos) wW:=λpins s σ H Q I h=>
 wpAny_Dict_empty ⟨.ref s.heap.objs.size,_,I.laid (a:=s.heap.objs.size) (o:=.dT []) (t':=s.toks) (λ_ _ q=>K2 _ q) (Ln _) (Bd s.heap I.big),rfl,h _ (I.hok.fresh (Ln _))⟩
end
def oW:List (TE×TE)->St->Hp->(List (V×V)->Hp->Prop)->Prop
 | [],_,H,Q=>Q [] H
 | (tk,tv)::r,σ,H,Q=>tk σ H λx H1=>tv σ H1 λy H2=>oW r σ H2 λps H3=>Q ((x,y)::ps) H3
abbrev VV:List (V×V)->List (Value×Value)->Prop:=Paired λp q=>bh p.1 q.1/\bh p.2 q.2
def G9(X:Cx)(pos:Pos)(keys:List (Option Expr))(values:Md)(trs:List (TE×TE)):Prop:=
 ∀(pins:LX) (s:LZ) (σ:St) (H:Hp) (Q:List (V×V)->Hp->Prop),Inv X pins σ H s->oW trs σ H Q ->
  wpAny (model X.prog X.w) X.A (evalPairs (pairTrees keys values X.env pos)) (λvs s'=>∃ps H',Inv X pins σ H' s'/\VV ps vs/\Q ps H') X.xe s
theorem DK{pos:Pos}:G9 X pos [] [] []:=λpins s σ H Q I h=>pairTrees_nil_walk ⟨[],H,I,.nil,h⟩
theorem BR{pos:Pos}{k v:Expr}{ks:List (Option Expr)}{tk tv:TE}{trs:List (TE×TE)}(hk:PE X k tk)(hv:PE X v tv)(hr:G9 X pos ks vs trs) :
  G9 X pos (some k::ks) (v::vs) ((tk,tv)::trs):=λpins s σ H Q I h=>
 pairTrees_cons_walk (bT (hk pins s σ H _ I h) λu s1 ⟨x,H1,I1,rx,q1⟩=>bT (hv pins s1 σ H1 _ I1 q1) λw2 s2 ⟨y,H2,I2,ry,q2⟩=>
  bT (hr pins s2 σ H2 _ I2 q2) λws s3 ⟨ps,H3,I3,rel,q3⟩=>⟨(x,y)::ps,H3,I3,.cons ⟨rx,ry⟩ rel,q3⟩)
def oa(kvs more:List (cP×V)):List (cP×V):=more.foldl (λacc kv=>du acc kv.1 kv.2) kvs
theorem KV.merge:∀{more:List (cP×V)} {rs:List (cP×Value)} {kvs:List (cP×V)} {vs:List (cP×Value)},KV more rs->KV kvs vs->KV (oa kvs more) (merged vs rs):=by
 intro more rs kvs vs r;unfold KV at r
 induction r generalizing kvs vs with
 |nil=>intro q;exact q
 | @cons p q ps qs h t ih=>
  intro a;have e:KV (du kvs p.1 p.2) (stored vs q.1 q.2):=by
   have:=a.put p.1 h.2;rw[<- h.1];exact this
  exact ih e
theorem jx:∀(more kvs:List (cP×V)),(oa kvs more).length<=kvs.length+more.length
 | [],kvs=>by show kvs.length<=kvs.length+0;omega
 |p::r,kvs=>by
  have h1:=jx r (du kvs p.1 p.2);have h2:=fO kvs p.1 p.2;show(oa (du kvs p.1 p.2) r).length<=_;rw[Lb];omega
theorem oM:∀{kvs:List (cP×V)} {ws:List (Value×Value)},VV (kvs.map λkv=>(kV kv.1,kv.2)) ws->∃rs,Carries (bQ P w) ws rs/\KV kvs rs
 | [],_,r=>by rw[List.map_nil]at r;cases r;exact⟨[],True.intro,.nil⟩
 |p::kvs,_,r=>by
  rw[Lu]at r;cases r with
  | @cons a b as bs h t=>
   obtain⟨rs,c,q⟩:=oM (P:=P) (w:=w) t;obtain⟨b1,b2⟩:=b;exact⟨(p.1,b2)::rs,⟨mq h.1,rfl,c⟩,.cons ⟨rfl,h.2⟩ q⟩
def Bp(trs:List (TE×TE)):TE:=λσ H Q=>∀p,H p=none->oW trs σ (aG H p (.dK [])) λps H2=>H2 p=some (.dK [])/\∃kvs:List (cP×V),ps=kvs.map (λkv=>(kV kv.1,kv.2))/\kvs.length<=15/\Q (.ref p) (aG H2 p (.dK (oa [] kvs)))
theorem DF{pos:Pos}{keys:List (Option Expr)}{values:Md}{trs:List (TE×TE)}(h:G9 X pos keys values trs)(hall:keys.all (·.isSome)=true)(hl:keys.length=values.length)(h0:keys≠[])
  (h15:keys.length<=15):PE X (.Dict keys values pos) (Bp trs):=by
 intro b s σ H Q I q;have r:=I.hok.fresh (Ln s.heap.objs.size);have B:=I.laid (a:=s.heap.objs.size) (o:=.dK []) (h':=s.heap.push {cls:=.type "dict",data:=.dict #[]}) (t':=s.toks) (λ_ _ q=>K2 _ q) (Ln _) (uZ s.heap I.big);refine wpAny_Dict_walk (knd:=bQ X.prog X.w) hall hl h0 h15 (bT (h b _ σ _ _ B (q _ r)) λws s2 ⟨ps,H2,j,i,e,d,x,lk,m⟩=>?_);subst x;obtain⟨k,c,rk⟩:=oM (P:=X.prog) (w:=X.w) i;obtain⟨z,v,vs0,l,y⟩:=qK j.hok e;cases l;refine⟨k,c,y,λh' g p=>⟨.ref s.heap.objs.size,_,?_,rfl,m⟩⟩;have n:(oa [] d).length<=sizeLine:=by
  have h1:=jx d [];rw[List.length_nil]at h1;rw[q0W];omega
 have u:∃q,h'.get? s.heap.objs.size=some q:=let ⟨q,_,_,hq,_⟩:=g;⟨q,hq⟩
 exact m_ j (by rw[e];exact True.intro) p u (xu n v (rk.merge .nil) g)
structure M1(X:Cx)(o:Expr)(m:Str)(apos:Pos)(e:Expr)(cpos:Pos):Prop where
 base:attributeBase o m X.env (eval o X.env)=eval o X.env
 few:((backTo cpos (starEach [e] X.env)).all (λx=>!x.1)&&(backToKw cpos (keywordEach [] X.env)).all (λx=>x.1.isSome)
  && decide (([e]:List Expr).length+([]:List Keyword).length+(if([]:List Keyword).isEmpty then 0 else 1)<30))=true
 line:(apos.endLine==cpos.line)=true
 trees:backTo cpos (starEach [e] X.env)=[(false,eval e X.env)]
structure M2(X:Cx)(o:Expr)(m:Str)(apos:Pos)(e f:Expr)(cpos:Pos):Prop where
 base:attributeBase o m X.env (eval o X.env)=eval o X.env
 few:((backTo cpos (starEach [e,f] X.env)).all (λx=>!x.1)&&(backToKw cpos (keywordEach [] X.env)).all (λx=>x.1.isSome)
  && decide (([e,f]:List Expr).length+([]:List Keyword).length+(if([]:List Keyword).isEmpty then 0 else 1)<30))=true
 line:(apos.endLine==cpos.line)=true
 trees:backTo cpos (starEach [e,f] X.env)=[(false,eval e X.env),(false,eval f X.env)]
def G7(H:Hp)(a:Addr):Prop:=(∃kvs,Rd H a (.dK kvs))\/∃kvs,Rd H a (.dT kvs)
theorem wt{pins:LX}{σ:St}(I:Inv X pins σ H s)(d:G7 H a) :
  s.TypeIs (.ref a) "dict"/\(∀b,Value.ref a=.ref b->∃ob,s.heap.get? b=some ob/\ob.dict=none)/\(a==sysModules)=false:=by
 rcases d with⟨g,e⟩ | ⟨g,e⟩
 ·obtain⟨_,i,vs,_,c⟩:=my I.hok e
  refine⟨c.typeIs,λb q=>?_,i⟩;cases q;obtain⟨ob,_,_,h1,h2,_⟩:=c;exact⟨ob,h1,h2.2.1⟩
 ·obtain⟨_,i,xs,_,c⟩:=pi I.hok e
  refine⟨c.typeIs,λb q=>?_,i⟩;cases q;obtain⟨ob,_,_,h1,h2,_⟩:=c;exact⟨ob,h1,h2.2.1⟩
section
variable {X:Cx}{pins:LX}{σ:St}{H:Hp}{s:LZ}{a:Addr}{y d:V}{u r:Value}{o:Option V}{A:Ma}{E:LV}
theorem E9{Q:LV}(hu:A.units+1<cLine)(I:Inv X pins σ H s)(g:kC H a y o)(ry:bh y u)(h:∀w' s',Inv X pins σ H s'->bh (o.getD .non) w'->Q w' s') :
  wpAny (model X.prog X.w) A (call (.builtin "dict.get") [.ref a,u]) Q E s:=by
 rcases g with⟨i,k,e,m,l⟩ | ⟨i,k,b,e,m,p,l⟩
 ·subst m
  obtain⟨z,j,vs,c,d⟩:=my I.hok e;refine call_meetsIn PySem.F.slot_dict_get d.typeIs PySem.F.entry_dict_get (PySem.F.args_dict_get_2 _ _) (meets_dict_get (bQ X.prog X.w) a (mq ry) j) ⟨_,d.mapOf,h _ _ (I.tok _) ?_⟩;rw[l];exact(c.val k).getD rfl
 ·subst m
  cases(show u=Value.ref b from ry);obtain⟨z,j,n,c,d⟩:=pi I.hok e;refine call_meetsIn PySem.F.slot_dict_get d.typeIs PySem.F.entry_dict_get (PySem.F.args_dict_get_2 _ _) (meetsH_dict_get (tupleKind (bQ X.prog X.w)) a b j) ⟨tupleKind_room_in1 hu,k,n,lJ I.hok p,d,h _ _ (I.tok _) ?_⟩;rw[l];exact(c.val k).getD rfl
end
def wJ(td ty:TE):TE:=λσ H Q=>td σ H λx H1=>∃a,x=.ref a/\G7 H1 a/\ty σ H1 λy H2=>∃o,kC H2 a y o/\Q (o.getD .non) H2
section
variable {X:Cx}{o e f:Expr}{apos cpos:Pos}{td ty tx:TE}
theorem BF(hu:X.A.units+1<cLine)(ho:PE X o td)(he:PE X e ty)(m:M1 X o "get" apos e cpos):PE X (.Call (.Attribute o "get" apos) [e] [] cpos) (wJ td ty):=by
 intro b s σ H Q I h;refine wpAny_Call_method m.base m.few m.line PySem.F.plainAttrs_dict PySem.F.slot_dict_get PySem.F.type_dict_get (bT (ho b s σ H _ I h) λu l ⟨x,H1,i,p,a,v,d,r⟩=>?_);subst v;obtain rfl:u=Value.ref a:=p;obtain⟨k,j,_⟩:=wt i d;refine⟨k,j,?_⟩;rw[m.trees];refine Calls.callWith_builtin rfl (Calls.evalArgs_plain (Calls.spliced_cons (bT (he b l σ H1 _ i r) λiv s2 ⟨y,H2,z,n,ov,g,q⟩=>Calls.spliced_nil ?_)));exact E9 hu z g n λw' s3 w c=>⟨_,H2,w,c,q⟩
end
end L2
namespace Att
open PySem PySem.W PySem.Calls PyProof.Rows
theorem mR:∀(ns:List Int) (vs:L4),WellAll P h vs (ns.map WData.int)->IntsAre vs ns:=by
 intro ns
 induction ns with
 |nil=>
  intro vs w;rw[List.map_nil]at w;cases w;exact .nil
 |cons n ns ih=>
  intro vs w;rw[Lu]at w;cases w with
  |cons a b=>
   cases a;exact .cons _ _ (ih _ b)
theorem yU{l:OpenLaw}{n:Nat}(hn:l.most=some n){P:Params}{h:Heap}{args:List WData}{vals:L4}
  (hpre:l.row.toRowW.claim.pre args=true) (hwl:WellAll P h vals args) :
  ∃a vs ns,vals=[Value.ref a]/\args=[WData.list (ns.map WData.int)]/\h.get? a=some {cls:=.type "list",data:=.seq vs.toArray}/\IntsAre vs ns/\ns.length<=n:=by
 have g:WShape.hasAll [] args [.list .int]=true:=(pre_splitW hpre).1;have i:l.pre.holds [] {args:=args}=true:=(pre_splitW hpre).2;obtain⟨d,r,rfl,h1,h2⟩:=hasAllW_cons g;obtain rfl:=hasAllW_nil h2;obtain⟨xs,rfl,k⟩:=hasW_list h1;obtain⟨ns,rfl⟩:=items_int k;have b:ns.length<=n:=by
  unfold OpenLaw.pre at i;have e:(WTm.not (.lt (.lit (.int (n:Int))) (.len (.arg 0)))).holds [] {args:=[.list (ns.map .int)]}=true:=by
   have e:=(holds_andW i).1;rw[hn]at e;exact e
  have c:=condW_of e (w_not (w_lt w_lit (w_len_list (w_arg rfl))));rw[K3]at c;refine Nat.le_of_not_lt λq=>?_;have j:(n:Int)<((ns.length:Nat):Int):=by omega
  first
   | (rw[q09 j]at c;exact q0Q c nofun)
   | (simp at c;omega)
 cases hwl with
 |cons w1 w2=>
  cases w2;cases w1 with
  |list ho hall=>exact⟨_,_,ns,rfl,rfl,ho,mR ns _ hall,b⟩
theorem zE(l:OpenLaw)(args:List WData):l.row.toRowW.claim.post args (.bool true) args=true:=
 postW_of (r:=l.row.toRowW) (X:=(true==true))
  (show WShape.has [] (.bool true) .bool=true by first | rfl | decide | simp[WShape.has,WShape.arms,WShape.armsAll])
  (show(WTm.eq .res (.lit (.bool true))).value [] {args:=args,res:=some (.bool true),after:=args}=some (.bool (true==true)) from w_eq_bool (w_res rfl) w_lit) rfl
theorem attach_call{l:OpenLaw}{n:Nat}{loose:L9}{XP:(Str->Option Value)->Heap->Prop}{YP:World->Heap->Prop}{d:DefRec}
  (hn:l.most=some n) (hdf:d.params.defaults=[])
  (call:∀(w:Mb) (s₀ s₁:LZ) (mg mb:L6) (fa:Addr) (o:Obj) (pm cd doc:Value) (a:Addr) (vs:L4) (ns:List Int),
   Ground q loose [] XP w s₀ mg mb s₁.heap->YP w s₁.heap ->
   s₁.heap.get? fa=some o->o.data=.func (docDef d.name d.params d.body d.scope pm cd doc)->s₁.heap.CodeRec cd d.name->mg d.name=some (.ref fa) ->
   s₁.heap.get? a=some {cls:=.type "list",data:=.seq vs.toArray}->IntsAre vs ns->ns.length<=n->s₁.gens=#[] ->
   codeAny (model l.prog w) callerA (.call (.ref fa) ⟨[.ref a],[]⟩) (λr s'=>r=.ok (.ret (.bool true))/\OldK s₁.heap s'.heap/\s'.os=s₁.os/\AllBare s'.gens) s₁) :
  WalkO q loose XP YP l.row.toRowW d [] (λf vs=>PySem.call f vs):=by
 intro w s₀ s₁ mg mb G Y fa o pm cd doc C kV u y k m j x args vals as c hlay hrd i hlo;obtain rfl:C=.none:=Dflts.none m hdf;obtain rfl:kV=.none:=Dflts.noKw m;obtain⟨a,vs,ns,rfl,rfl,e,b,g⟩:=yU hn c i;refine enter_call (codeAny_mono (call w s₀ s₁ mg mb fa o pm cd doc a vs ns G Y u (fd_plain y) k j e b g x) λr s' p=>?_);obtain⟨rfl,h2,B,z⟩:=p;exact⟨.inl ⟨.bool true,.bool true,[],rfl,λ_=>rfl,.bool true,zE l _,λ_=>⟨List.Pairwise.nil,λ_ v=>(nomatch v)⟩⟩,h2,B,z⟩
section
variable {prog:L8}{w:Mb}{A:Ma}{E:LV}{s:LZ}{K:Frag}
end
end Att
namespace L2
open PySem PySem.Spec PyProof.Rows
theorem rO:∀{vs:L4} {ns:List Int},IntsAre vs ns->bc (ns.map V.int) vs
 |_,_,.nil=>.nil
 |_,_,.cons n t h=>.cons ⟨t,rfl⟩ (rO h)
def EO(H:Hp):Prop:=∀b,H b=none\/∃o xs,H b=some (.frz o (.lst xs))
theorem AM{K:LW}{mg mb:L6}{CX:iy}{fa a:Addr}{x:Str}{sp:Sp}{s₁:LZ}{vs:L4}{ns:List Int}
  (KX:K.In s₁.heap) (hns:s₁.heap.Ns mainGlobals mg) (hb:s₁.heap.Ns builtinsNs mb) (hbb:∀x:Str,x≠"__name__"->mb x=bootBuiltins x) (hlim:s₁.heap.NoLimit) (hg:s₁.gens=#[])
  (ha:s₁.heap.get? a=some {cls:=.type "list",data:=.seq vs.toArray}) (hi:IntsAre vs ns) (hl:ns.length<=sizeLine) (hr:cI k callerA)
  (F:∀base:Heap,K.In base->base.Ns mainGlobals mg->aS P w K mg base CX k fa fd [x] sp) (hbind:∀(s:LZ) (u:Value),BindsTo s fd ⟨[u],[]⟩ [(x,u)])
  (hsp:∀H:Hp,EO H->aR K H a (ns.map V.int)->sp [.ref a] H (λv _=>v=.bl true) λ_ _ _=>False)
  (hCX:∀H e s',CX [] H s₁ (λ_ _ _=>False) e s'->False) :
  codeAny (model P w) callerA (.call (.ref fa) ⟨[.ref a],[]⟩) (λr s'=>r=.ok (.ret (.bool true))/\OldK s₁.heap s'.heap/\s'.os=s₁.os/\AllBare s'.gens) s₁:=by
 have J:=rO hi;have l:=hi.length
 -- from an abstract heap in which nothing but the script may be tracked
 have i:∀H:Hp,EO H->aR K H a (ns.map V.int)->jh P w H s₁.heap->(∀b,H b≠none->b=a)->(H a≠none->K.lookup a=none) ->
   codeAny (model P w) callerA (.call (.ref fa) ⟨[.ref a],[]⟩) (λr s'=>r=.ok (.ret (.bool true))/\OldK s₁.heap s'.heap/\s'.os=s₁.os/\AllBare s'.gens) s₁:=by
  intro H L Y y M hK;have c:∀{b:Addr} {o:Obj},s₁.heap.get? b=some o->H b=none->(tT s₁.heap H).get? b=some o:=λe n=>Cp e n;have D:∀{b:Addr} {o:Obj} {es:Array DictEntry} {ep:Nat},s₁.heap.get? b=some o->o.data=.dict es ep->H b=none:=fun{b o es ep} e d=>by
   cases q:H b with
   |none=>rfl
   |some u=>
    have I:b=a:=M b (by rw[q];simp);subst I;rw[ha]at e;cases e
    have d':Data.seq vs.toArray _=Data.dict es ep:=d;cases d'
  have g:∀{b:Addr} {m:L6},s₁.heap.Ns b m->(tT s₁.heap H).Ns b m:=fun{b m} ⟨o,es,ep,e,d,r⟩=>⟨o,es,ep,c e (D e d),d,r⟩;have B:K.In (tT s₁.heap H):=λb o e=>c (KX b o e) (by
   cases q:H b with
   |none=>rfl
   |some u=>
    have I:b=a:=M b (by rw[q];simp);subst I;rw[hK (by rw[q];simp)]at e;cases e)
  have Z:Mod K mg (tT s₁.heap H):=⟨B,g hns,⟨mb,g hb,hbb⟩,let ⟨mc,h1,h2⟩:=hlim;⟨mc,g h1,h2⟩⟩;have e0:oZ P w K mg (tT s₁.heap H) callerA [] s₁ H:=⟨rfl,Z,λb o e=>El e,Nat.le_of_eq (zK _ _),trivial,λb hb=>q0Q (show b∈([]:List Addr) from hb) (by simp),y,.of_eq hg⟩;refine codeAny_mono ((F _ B (g hns)).run callerA [] s₁ H ⟨[.ref a],[]⟩ [.ref a] [.ref a] _ _ hr e0 (hbind s₁ (.ref a)) (.cons rfl .nil) (hsp H L Y)) λr s' h=>?_;cases r with
  |error e=>exact(hCX H e s' h).elim
  |ok fl=>
   cases fl with
   |next=>exact False.elim h
   |brk=>exact False.elim h
   |cont=>exact False.elim h
   |ret u=>
    obtain⟨v,H',os,C,un,p,S,q⟩:=h;have T:v=.bl true:=q;subst T;obtain rfl:u=Value.bool true:=S;refine⟨rfl,OldK.of_keep λb o e=>?_,os,C⟩;cases q:H b with
    |none=>exact un.keep b o e q (by intro z;exact q0Q (show b∈([]:List Addr) from z) (by simp)) (by simp)
    |some u=>
     rcases L b with z | ⟨U,xs,z⟩
     ·rw[q]at z;cases z
     ·have R:=un.frzs b U _ z
      obtain⟨O,_⟩:=y b _ z;obtain⟨e2,_⟩:=p b _ R;rw[e]at O;cases O
      exact e2
 cases G:K.lookup a with
 |some o=>
  -- the script is one of the module's own objects
  have e:=KX a o G;rw[ha]at e;cases e;refine i (λ_=>none) (λ_=>.inl rfl) (.inr ⟨_,vs.toArray,_,G,rfl,rfl,rfl,by rw[K9,l];exact hl,by simpa using J⟩) (λb u z=>by have j:(none:Option HO)=some u:=z;cases j) (λb z=>q0Q rfl z) λz=>q0Q rfl z
 |none=>
  refine i (λb=>if b=a then some (.frz {cls:=.type "list",data:=.seq vs.toArray} (.lst (ns.map V.int))) else none) (λb=>?_) (.inl (.inr ⟨{cls:=.type "list",data:=.seq vs.toArray},q07 rfl⟩)) (λb u z=>?_) (λb z=>?_) λ_=>G
  ·by_cases hb:b=a
   ·exact .inr ⟨_,_,q07 hb⟩
   ·exact .inl (q06 hb)
  ·by_cases hb:b=a
   ·have j:=(q07 hb).symm.trans z
    cases j;subst hb;exact⟨ha,by rw[K3];exact hl,vs,_,J,ha⟩
   ·have j:=(q06 hb).symm.trans z
    cases j
  ·by_cases hb:b=a
   ·exact hb
   ·exact q0Q (q06 hb) z
theorem walk_of{l:PySem.W.OpenLaw}{n:Nat}{loose:L9}{XP:(Str->Option Value)->Heap->Prop}{YP:World->Heap->Prop}{d:DefRec}{K:Params->PySem.W.Frag}{CX:World->iy}{sp:World->Sp}{x:Str}
  (hn:l.most=some n) (hn2:n<=sizeLine) (hdf:d.params.defaults=[]) (hr:cI k callerA)
  (hY:∀(w:Mb) (h:Heap),YP w h->(K w.params).In h)
  (F:∀(w:Mb) (mg:L6) (fa:Addr) (h:Heap),(K w.params).In h->h.Ns mainGlobals mg->mg d.name=some (.ref fa) ->
   ∃fd:FuncData,(∀(s:LZ) (u:Value),BindsTo s fd ⟨[u],[]⟩ [(x,u)]) /\
    ∀base:Heap,(K w.params).In base->base.Ns mainGlobals mg->aS l.prog w (K w.params) mg base (CX w) k fa fd [x] (sp w))
  (hsp:∀(w:Mb) (H:Hp) (a:Addr) (ns:List Int),ns.length<=n->EO H->aR (K w.params) H a (ns.map V.int)->sp w [.ref a] H (λv _=>v=.bl true) λ_ _ _=>False)
  (hCX:∀(w:Mb) (H:Hp) (s:LZ) (e:Value) (s':LZ),CX w [] H s (λ_ _ _=>False) e s'->False) :
  PySem.W.WalkO q loose XP YP l.row.toRowW d [] (λf vs=>PySem.call f vs):=by
 refine Att.attach_call hn hdf λw s₀ r mg mb fa o pm cd doc a vs ns G Y ho hd hcd m j i c y=>?_;have p:=hY w _ Y;obtain⟨fd,z,D⟩:=F w mg fa _ p G.T.g m;exact AM p G.T.g G.T.b G.T.builtins G.T.nolimit y j i (Lv c hn2) hr D z (λH C B=>hsp w H a ns c C B) λH e s'=>hCX w H r e s'
def cR(s:Stmt):Arguments:=match s with
 | .FunctionDef _ a _ _ _ _ _ _ _ _=>a
 |_=>{posonlyargs:=[],args:=[],vararg:=none,kwonlyargs:=[],kw_defaults:=[],kwarg:=none,defaults:=[]}
def cB(s:Stmt):List Stmt:=match s with
 | .FunctionDef _ _ b _ _ _ _ _ _ _=>b
 |_=>[]
def ak(s:Stmt):Scope:=match s with
 | .FunctionDef _ _ _ _ _ _ sc _ _ _=>sc
 |_=>{kind:=.function,names:=[],isGenerator:=false,isCoroutine:=false}
abbrev bf:iy:=λ_ _ _ _ _ _=>False
abbrev E0:XK:=λ_ _ _=>False
theorem aL:cT bf X E0:=λ_ _ _ _ _ _ _ h=>h.elim
structure dj(K:LW)(x qual:Str)(st:Stmt)(f:Addr)(fd:L7):Prop where
 ex:∃(oc:Value) (od:Mc) (kV doc pm:Value) (an:Mc) (cdv ct:Value) (osl:Array (Option Value)),
  fd=PySem.W.fnOf x qual (cR st) (cB st) (ak st) .none kV doc pm an cdv ct/\K.lookup f=some ⟨oc,od,.func fd,osl⟩/\PySem.W.codeIn K cdv qual=true
 kp:PySem.W.keepIn K (.ref f)=true
section
variable {P:L8}{w:Mb}{K:LW}{mg:L6}{base:Heap}
theorem dj.ok{qual:Str}{st:Stmt}{f:Addr}{ps:L9}{sp:Sp}(F:dj K x qual st f fd)(S:aB N ps (ak st))(len:∀vs H Q E,sp vs H Q E->vs.length=ps.length)
  (hbody:∀(cdv:Value) (A:Ma) (outer:List Env) (s:LZ) (H:Hp) (vs:List V) (Q:VK) (E:XK),cI k (A.deeper (envOfC qual (ak st) s.heap.objs.size f cdv))->sp vs H Q E ->
   ∃t,ux (im bf P w K mg base N qual (ak st) f cdv A outer s H E).nox (cB st) t/\t {nx:=λ_ H'=>Q .non H',rt:=Q} (start N vs) H):↑aS (k+1) f fd ps sp:=by
 obtain⟨oc,od,kV,doc,pm,an,cdv,ct,osl,rfl,c,b⟩:=F.ex;refine AL c b S len λA outer s H vs Q E hr a=>?_;obtain⟨t,h,q⟩:=hbody cdv A outer s H vs Q E hr a;exact⟨t,h.nox,q⟩
theorem dj.binds{qual:Str}{st:Stmt}{f:Addr}{ps:L9}(F:dj K x qual st f fd)
  (h:∀(kV doc pm:Value) (an:Mc) (cdv ct:Value) (us:L4),us.length=ps.length->bindArgs (PySem.W.fnOf x qual (cR st) (cB st) (ak st) .none kV doc pm an cdv ct) ⟨us,[]⟩=pure (ps.zip us)):dO K fd ps []:=by
 obtain⟨oc,od,kV,doc,pm,an,cdv,ct,osl,rfl,lk,hcd⟩:=F.ex;exact .all (h kV doc pm an cdv ct)
theorem cM{qual:Str}{st:Stmt}{f:Addr}{oc:Value}{od an:Mc}{osl:Array (Option Value)}{kV doc pm cdv ct:Value}(l:K.lookup f=some ⟨oc,od,.func (PySem.W.fnOf x qual (cR st) (cB st) (ak st) .none kV doc pm an cdv ct),osl⟩)
  (c:PySem.W.codeIn K cdv qual=true) (k:PySem.W.keepIn K (.ref f)=true):dj K x qual st f (PySem.W.fnOf x qual (cR st) (cB st) (ak st) .none kV doc pm an cdv ct):=⟨⟨oc,od,kV,doc,pm,an,cdv,ct,osl,rfl,l,c⟩,k⟩
end
section
variable {X:Cx}
theorem pv(i:Nat){x:Str}{pos:Pos}(hN:autoParam (X.N[i]?=some x) zz0._auto_1)(hv:autoParam (Hg X.env.scope x) zz6._auto_1)(hd:autoParam ((x==("__debug__":Str))=false) zz1._auto_1)
  (hcd:autoParam ((x==("__classdict__":Str))=false) zz1._auto_1):PE X (.Name x pos) (Ak i):=Ff hN hv hd hcd
theorem zD:eM X (.builtin "len") (λxs H Q=>∃a kvs,xs=[V.ref a]/\H a=some (.dK kvs)/\Q (.int kvs.length) H):=by
 intro pins s σ H xs us Q I r h;obtain⟨a,kvs,rfl,c,q⟩:=h;obtain⟨u,rfl,b⟩:=ou r;cases b;exact GS I (.inl c) λt s' d=>⟨.int kvs.length,H,d,⟨t,rfl⟩,q⟩
end
def aA(H H':Hp):Prop:=∀b o,H b=some o->H' b=some o
theorem aA.refl(H:Hp):aA H H:=λ_ _ h=>h
theorem aA.trans{H1 H2:Hp}(a:aA H H1)(b:aA H1 H2):aA H H2:=λc o h=>b c o (a c o h)
theorem aA.free(e:aA H H'){l:Addr}(h:H' l=Option.none):H l=Option.none:=by
 cases q:H l with
 |none=>rfl
 |some o=>
  rw[e l o q]at h;cases h
theorem aA.seq{K:LW}(e:aA H H')(h:aR K H a xs):aR K H' a xs:=by
 rcases h with(h | ⟨o,h⟩) | h
 ·exact .inl (.inl (e _ _ h))
 ·exact .inl (.inr ⟨o,e _ _ h⟩)
 ·exact .inr h
section
variable {κ:Type}[DecidableEq κ]
theorem AJ{kvs:List (κ×V)}{k:κ}(h:dF kvs k=none):¬ k∈kvs.map (·.1):=by
 intro m;obtain⟨p,b,e⟩:=LK.mp m;have q:(kvs.any λa=>decide (a.1=k))=true:=List.any_eq_true.mpr ⟨p,b,q09 e⟩;rw[gz,h]at q;exact q0Q q (by simp)
end
end L2
namespace PySem
open Sem (wp)
open Builtin Builtin.Str Builtin.Int
namespace F
theorem lD:Manifest.owners.lookup "reversed"=some Manifest.sig_reversed:=by kernel_rfl
theorem slot_rvs_next:Slot "reversed" "__next__" "reversed.__next__":=
 .of (owner:="reversed") (n:="__next__") (by rw[typeLookup_type,builtinLookup_eq_fast];kernel_rfl) (by decide +kernel) (by decide +kernel) (by decide +kernel)
  (by first | exact .inl (by decide +kernel) | exact .inr (by decide +kernel)) (by rw[isSubtype_type];kernel_rfl)
theorem entry_rvs_next:entryFor table "reversed.__next__"=some Builtin.«reversed.__next__»:=entryFor_of_tree (by kernel_rfl)
theorem slot_rvs_iter:Slot "reversed" "__iter__" "reversed.__iter__":=
 .of (owner:="reversed") (n:="__iter__") (by rw[typeLookup_type,builtinLookup_eq_fast];kernel_rfl) (by decide +kernel) (by decide +kernel) (by decide +kernel)
  (by first | exact .inl (by decide +kernel) | exact .inr (by decide +kernel)) (by rw[isSubtype_type];kernel_rfl)
theorem nolen_rvs:typeLookup (.type "reversed") "__len__"=pure none:=by rw[typeLookup_type,builtinLookup_eq_fast];kernel_rfl
theorem hint_rvs:typeLookup (.type "reversed") "__length_hint__"=pure (some (.builtin "reversed.__length_hint__")):=by rw[typeLookup_type,builtinLookup_eq_fast];kernel_rfl
theorem args_rvs_next_1(a:Value):argsOk "reversed.__next__" ⟨[a],[]⟩:=by
 unfold argsOk;rw[signature?_of (id:="reversed.__next__") (n:=['_','_','t','x','e','n','_','_']) (o:=['d','e','s','r','e','v','e','r']) (by kernel_rfl) lD];kernel_rfl
theorem args_rvs_iter_1(a:Value):argsOk "reversed.__iter__" ⟨[a],[]⟩:=by
 unfold argsOk;rw[signature?_of (id:="reversed.__iter__") (n:=['_','_','r','e','t','i','_','_']) (o:=['d','e','s','r','e','v','e','r']) (by kernel_rfl) lD];kernel_rfl
theorem entry_rvs_iter:entryFor table "reversed.__iter__"=some Builtin.«dict_keyiterator.__iter__»:=
 entryFor_alias (id':="dict_keyiterator.__iter__") (by kernel_rfl) (by first | rfl | decide +kernel | (unfold String.splitOn;simp +decide [String.splitOnAux])) (by decide +kernel) (by kernel_rfl)
theorem slot_rvs_hint:Slot "reversed" "__length_hint__" "reversed.__length_hint__":=
 .of (owner:="reversed") (n:="__length_hint__") (by rw[typeLookup_type,builtinLookup_eq_fast];kernel_rfl) (by decide +kernel) (by decide +kernel) (by decide +kernel)
  (by first | exact .inl (by decide +kernel) | exact .inr (by decide +kernel)) (by rw[isSubtype_type];kernel_rfl)
theorem entry_rvs_hint:entryFor table "reversed.__length_hint__"=some Builtin.«reversed.__length_hint__»:=entryFor_of_tree (by kernel_rfl)
theorem args_rvs_hint_1(a:Value):argsOk "reversed.__length_hint__" ⟨[a],[]⟩:=by
 unfold argsOk;rw[signature?_of (id:="reversed.__length_hint__") (n:=['_','_','t','n','i','h','_','h','t','g','n','e','l','_','_']) (o:=['d','e','s','r','e','v','e','r']) (by kernel_rfl) lD];kernel_rfl
end F
section
variable {prog:L8}{w:Mb}{A:Ma}{E:LV}{s:LZ}
def xS(x:Str)(t:Tok)(i:Int):Obj:={cls:=.type "reversed",data:=.fields #[.str x t,rawInt i]}
def Heap.IsRvs(h:Heap)(a:Addr)(x:Str)(t:Tok)(i:Int):Prop:=∃o,h.get? a=some o/\o.cls=.type "reversed"/\o.data=.fields #[.str x t,rawInt i]
theorem Heap.IsRvs.typeIs{t:Tok}(y:s.heap.IsRvs a x t i):s.TypeIs (.ref a) "reversed":=let ⟨o,ho,hc,_⟩:=y;⟨o,ho,hc⟩
theorem Heap.IsRvs.at{h h':Heap}{t:Tok}(y:h.IsRvs a x t i)(e:∀o,h.get? a=some o->h'.get? a=some o):h'.IsRvs a x t i:=let ⟨o,ho,r⟩:=y;⟨o,e _ ho,r⟩
theorem ir{it:Addr}{t:Tok}{i c:Nat}{Q:Option Value->Shared->Prop}(hit:s.heap.IsRvs it x t (i:Int))(hx:x.cps[i]?=some c)(hsz:i<2 ^ 63)
  (hQ:∀h' tk tk',h'.IsRvs it x t ((i:Int)-1)->Heap.SameBut it s.heap h'->Q (some (.str ⟨#[c]⟩ tk)) {s with heap:=h',toks:=tk' }):wpAny (model prog w) A (pyNext (.ref it)) Q E s:=by
 obtain⟨o,d,k,b⟩:=id hit;have g:i<x.length:=(Array.getElem?_eq_some_iff.mp hx).1;unfold pyNext;refine q04 (wpAny_attempt (wpAny_callSpecial?_slot (name:=Str.ofString "__next__") hit.typeIs F.slot_rvs_next
  (wpAny_call_entry F.slot_rvs_next hit.typeIs F.entry_rvs_next ?_ (F.args_rvs_next_1 _))))
 unfold Builtin.«reversed.__next__»;refine q04 (wpAny_of_eq (a:=(Value.ref it,[])) rfl ?_)
 try dsimp only
 refine q04 (wpAny_field d b (x:=.str x t) rfl ?_);refine q04 (wpAny_field d b (x:=rawInt (i:Int)) rfl ?_);show wpAny _ _ (if(i:Int)<0 then _ else _) _ _ s;rw[q06 ⋯];refine q04 (wpAny_specialOf (typeIs_str s x t) F.slot_str_getitem.lookup ?_)
 try dsimp only
 first
 |rw[q06 (show ¬ ((some (Value.builtin "str.__getitem__")).isNone=true) from Lp)]
 |skip
 refine q04 (wpAny_mkInt ?_);refine q04 (wpAny_attempt ?_);have l:(seqIndex? (i:Int) x.length).bind (x.cps[·]?)=some c:=by
  have e:seqIndex? (i:Int) x.length=some i:=by
   have j:¬ ((i:Int)<0):=by omega
   unfold seqIndex?;simp[j,g]
  rw[e];exact hx
 refine P.getItem_str (c:=c) (by simp;omega) l ?_;dsimp only;refine q04 (wpAny_field d b (x:=rawInt (i:Int)) rfl ?_);show wpAny _ _ (setField (Value.ref it) 1 (rawInt ((i:Int)-1)) >>= λ_=>ret (Value.str ⟨#[c]⟩ _)) _ _ _;refine q04 (wpAny_setField d b (by simp) ?_);refine q05 ⟨_,rfl,q05 (hQ _ _ _ ?_ (Heap.SameBut.update ..))⟩;exact⟨_,La _ d (Obj.isFreed_of_fields (Obj.data_mapFields b _)),(Obj.cls_mapFields ..).trans k,by
  rw[Obj.data_mapFields b];simp⟩
theorem iG{it:Addr}{t:Tok}{Q:Option Value->Shared->Prop}(hh:A.handled=none)(hit:s.heap.IsRvs it x t (-1))
  (hQ:∀h',Heap.ExtBut it s.heap h'->Q none {s with heap:=h' }):wpAny (model prog w) A (pyNext (.ref it)) Q E s:=by
 obtain⟨o,d,hc,c⟩:=id hit;unfold pyNext;refine q04 (wpAny_attempt (wpAny_callSpecial?_slot (name:=Str.ofString "__next__") hit.typeIs F.slot_rvs_next
  (wpAny_call_entry F.slot_rvs_next hit.typeIs F.entry_rvs_next ?_ (F.args_rvs_next_1 _))))
 unfold Builtin.«reversed.__next__»;refine q04 (wpAny_of_eq (a:=(Value.ref it,[])) rfl ?_)
 try dsimp only
 refine q04 (wpAny_field d c (x:=.str x t) rfl ?_);refine q04 (wpAny_field d c (x:=rawInt (-1)) rfl ?_);show wpAny _ _ (if(-1:Int)<0 then _ else _) _ _ s;rw[q07 nofun];refine q04 (wpAny_rule ?_);show wpAny _ _ ((setField (Value.ref it) 1 (rawInt (-1)) >>= λ_=>setField (Value.ref it) 0 .none) >>= _) _ _ _;refine q04 (q04 (wpAny_setField d c (by simp) ?_));have e:=La (Obj.mapFields (·.setIfInBounds 1 (rawInt (-1)))) d (Obj.isFreed_of_fields (Obj.data_mapFields c _));refine wpAny_setField e (Obj.data_mapFields c _) (by simp) ?_;dsimp only;show wpAny _ _ (SmallTypes.stopIteration >>= _) _ _ _;refine q04 ?_;unfold SmallTypes.stopIteration
 first
 |show wpAny _ _ (newExc (.type "StopIteration") [] >>= _) _ _ _
 | (refine q04 ?_;show wpAny _ _ (newExc (.type "StopIteration") [] >>= _) _ _ _)
 refine q04 ?_;simp only[newExc,newTuple];refine q04 (wpAny_newObj_type ?_ (by size_fits));refine q04 (m:=firstArgMember _ _) (wpAny_of_eq (a:=Value.none) (by first | rfl | (simp only[firstArgMember];rfl)) ?_);refine wpAny_newObj_type ?_ (by size_fits);simp only[raiseNew];refine q04 (wpAny_handled ?_)
 first | rw[show A.in1.handled=none from hh] | rw[hh]
 refine q04 (q05 (wpAny_throw ?_));refine q04 (wpAny_isInstance (T:="StopIteration") (b:=true) ⟨_,K8 _ rfl,rfl⟩ isSubtype_stop ?_);refine q05 (hQ _ ?_);intro b ob g i;exact K2 _ (K2 _ ((K7 _ _ (Ne.symm g)).trans ((K7 _ _ (Ne.symm g)).trans i)))
theorem gD{it:Addr}{t:Tok}{Q:LV}(hit:s.heap.IsRvs it x t i)(h:Q (.ref it) s):wpAny (model prog w) A (pyIter (.ref it)) Q E s:=by
 refine wpAny_pyIter_slot hit.typeIs F.slot_rvs_iter (wpAny_call_entry F.slot_rvs_iter hit.typeIs F.entry_rvs_iter ?_ (F.args_rvs_iter_1 _));show wpAny _ _ (ret (.ref it)) _ _ s;exact q05 ⟨_,rfl,"reversed",_,hit.typeIs,F.slot_rvs_next.lookup,h⟩
theorem hint_rvs{it:Addr}{t:Tok}{Q:LV}(hit:s.heap.IsRvs it x t i)(hi:i<x.length)(hz:x.length<=sizeLine)
  (h:∀u tk,s.toks<=tk->Q (.int (i+1) u) {s with toks:=tk}):wpAny (model prog w) A (call (.builtin "reversed.__length_hint__") [.ref it]) Q E s:=by
 obtain⟨o,b,hc,c⟩:=id hit;refine wpAny_call_entry F.slot_rvs_hint hit.typeIs F.entry_rvs_hint ?_ (F.args_rvs_hint_1 _);unfold Builtin.«reversed.__length_hint__»;refine q04 (wpAny_of_eq (a:=Value.ref it) rfl ?_);refine q04 (wpAny_field b c (x:=.str x t) rfl ?_);show wpAny _ _ (if(Value.str x t==Value.none)=true then _ else _) _ _ s;rw[q06 (show ¬ ((Value.str x t==Value.none)=true) from λz=>by cases(eq_of_beq z))];have hs:sizeLine=16777216:=q0W;refine q04 (P.len_str ⋯ ?_);refine q04 (m:=asInt? _) (q05 ?_);dsimp only;refine q04 (wpAny_field b c (x:=rawInt i) rfl ?_);show wpAny _ _ (if(x.length:Int)<i+1 then _ else _) _ _ _;rw[q06 ⋯];show wpAny _ _ (mkInt (i+1) >>= λv=>ret v) _ _ _;exact q04 (wpAny_mkInt (q05 ⟨_,rfl,h _ _ (by simp;omega)⟩))
theorem Walks.rvs{A:Ma}(hh:A.handled=none)(I:Addr)(x:Str)(t:Tok)(hz:x.length<=sizeLine) :
  Walks prog w A I [I] [I] x.length (λi v=>∃c tk,x.cps[x.length-1-i]?=some c/\v=.str ⟨#[c]⟩ tk) (λi h=>i<=x.length/\h.IsRvs I x t ((x.length:Int)-1-(i:Int))) where
 sub:=λb hb=>hb
 frame:=λ_ _ _ y hk=>⟨y.1,y.2.at λo e=>hk I (by simp) o e⟩
 item:=λi s Q E hi y hQ=>by
  have e:(x.length:Int)-1-(i:Int)=((x.length-1-i:Nat):Int):=by omega
  have a:=y.2;rw[e]at a;have hb:x.length-1-i<x.cps.size:=by have:x.length=x.cps.size:=rfl;omega
  have n:x.cps[x.length-1-i]?=some (x.cps[x.length-1-i]'hb):=Array.getElem?_eq_getElem hb;have hs:sizeLine=16777216:=q0W;refine ir a n ⋯ λl tk g d j=>?_;have p:((x.length-1-i:Nat):Int)-1=(x.length:Int)-1-((i+1:Nat):Int):=by omega
  rw[p]at d;exact hQ _ l g ⟨_,tk,n,rfl⟩ ⟨hi,d⟩ λb o hb m=>j.extBut b o (λh=>hb (by simp[h])) m
 done:=λs Q E y hQ=>by
  have e:(x.length:Int)-1-(x.length:Int) = -1:=by omega
  have a:=y.2;rw[e]at a;exact iG hh a λl k=>hQ l s.toks λb o hb m=>k b o (λh=>hb (by simp[h])) m
 self:=λ_ _ _ _ y hQ=>gD y.2 hQ
theorem j_{t:Tok}{Q:List Value->Shared->Prop}(hh:A.handled=none)(hit:s.heap.IsRvs I x t ((x.length:Int)-1))(hz:x.length<=sizeLine)
  (hQ:∀s' acc,Moved [I] (λa b=>b=a) s s'->ItemsOf (λi v=>∃c tk,x.cps[x.length-1-i]?=some c/\v=.str ⟨#[c]⟩ tk) acc x.length->Q acc.toList s'):wpAny (model prog w) A (collect (.ref I)) Q E s:=by
 have W:=(Walks.rvs (prog:=prog) (w:=w) (A:=A.in1) hh I x t hz).toS;have hn:x.length<=sizeLine:=hz;have hst:(λi (s:LZ)=>i<=x.length/\s.heap.IsRvs I x t ((x.length:Int)-1-(i:Int))) 0 s:=⟨Lo _,by simpa using hit⟩;have hT:∀i (s:LZ),(i<=x.length/\s.heap.IsRvs I x t ((x.length:Int)-1-(i:Int)))->s.TypeIs (.ref I) "reversed":=λi s y=>y.2.typeIs;have hlt:I<s.heap.objs.size:=by obtain⟨o,ho,_⟩:=hit;exact Lq ho
 have hSI:s.heap.objs.size≠I:=λe=>Lw _ (e▸hlt);have hSf:s.heap.objs.size∉[I]:=λhm=>hSI (K4.mp hm);unfold collect;refine q04 (wpAny_runValue (codeAny_builtin F.entry_proto_collect ?_));rw[Around.under_plainId F.plain_proto_collect _];show wpAny _ A.in1 (newList [] >>= λl=>again (.builtin "list.__iadd__" ⟨[l,.ref I],[]⟩)) _ _ s;refine q04 (wpAny_newObj_type ?_);refine q05 ⟨plainId_quiet F.plain_list_iadd _,codeAny_builtin F.entry_list_iadd ?_⟩;rw[Around.under_plainId F.plain_list_iadd _];have hst₁:=W.frame 0 s (s.heap.push {cls:=.type "list",data:=.seq ([]:List Value).toArray}) s.toks hst (Ln _) λb _ o e=>K2 _ e;have hS₁:(s.heap.push {cls:=.type "list",data:=.seq ([]:List Value).toArray}).get? s.heap.objs.size=some {cls:=.type "list",data:=.seq ([]:List Value).toArray}:=K8 _ rfl;have h1:Builtin.List.listSameRef (.ref s.heap.objs.size) (.ref I)=false:=by simp[Builtin.List.listSameRef,hSI]
 show wpAny _ A.in1 (Builtin.List.listExtendWith (.ref s.heap.objs.size) (.ref I) (.ref s.heap.objs.size)) _ _ _;unfold Builtin.List.listExtendWith;refine q04 (wpAny_typeOf (hT 0 _ hst₁) ?_);rw[q06 (by rw[h1];decide)];refine q04 (W.self 0 _ _ _ hst₁ ?_);refine q04 (q0Y ?_);unfold Builtin.List.listLengthHint;refine q04 (wpAny_specialOf (hT 0 _ hst₁) F.nolen_rvs ?_);show wpAny _ A.in1 (specialOf (Value.ref I) (Str.ofString "__length_hint__") >>= _) _ _ _;refine q04 (wpAny_specialOf (hT 0 _ hst₁) F.hint_rvs ?_)
 (generalize hid:("reversed.__length_hint__":String)=id0;(fail_if_success (clear hid id0));wp_delta;rw[show splitId id0=some ("reversed","__length_hint__") from by subst hid;decide +kernel];subst hid)
 refine q04 (wpAny_isInstance (b:=true) (hT 0 _ hst₁) (by rw[isSubtype_type];kernel_rfl) ?_);rw[q06 (show ¬ ((!true)=true) by decide)];dsimp only
 split
 ·rename_i hsil
  exact q0Q hsil (by decide +kernel)
 refine q04 (wpAny_rule ?_);refine q04 (wpAny_of_eq (F.slot_rvs_hint.bind _) ?_);dsimp only;refine q04 (wpAny_attempt ?_);refine hint_rvs (i:=(x.length:Int)-1-((0:Nat):Int)) hst₁.2 ⋯ hz λu tk htk=>?_;dsimp only;have hs:sizeLine=16777216:=q0W;have hk:Builtin.List.listTooLong (Int.toNat ((x.length:Int)-1-((0:Nat):Int)+1))=false:=by
  unfold Builtin.List.listTooLong;have e:Int.toNat ((x.length:Int)-1-((0:Nat):Int)+1)=x.length:=by omega
  rw[e]
  simpa using hz
 refine q04 (m:=asInt? (.int _ u)) (q05 ?_);dsimp only;have hfit:Builtin.List.listFitsIndex ((x.length:Int)-1-((0:Nat):Int)+1)=true:=by
  unfold Builtin.List.listFitsIndex;simp;omega
 rw[q06 (by rw[hfit];decide),q06 ⋯,q06 (by rw[hk];decide)];refine q05 ?_
 -- the loop,from a list that may have been touched
 have fin:∀(h₂:Heap) (c:Nat),(∀b o,b≠s.heap.objs.size->(s.heap.push {cls:=.type "list",data:=.seq ([]:List Value).toArray}).get? b=some o->h₂.get? b=some o) ->
   h₂.get? s.heap.objs.size=some {cls:=.type "list",data:=.seq ([]:List Value).toArray c} ->
   codeAny (model prog w) A (.builtin "list.extend.loop" ⟨[.ref s.heap.objs.size,.ref I,.ref s.heap.objs.size],[]⟩) (λr s'=>match r with
    | .ok (.ret v)=>wpAny (model prog w) A (match v with
     | .ref a=>do
      let __do_lift <- load a
      match __do_lift.data with
       | .seq xs _=>pure xs.toList
       |_=>unsupported "internal:collect"
     |_=>unsupported "internal:collect") Q E s'
    | .ok _=>False
    | .error e=>E e s') {s with heap:=h₂,toks:=tk}:=λh₂ c keep hS₂=>by
  have hst₂:(λi (s:LZ)=>i<=x.length/\s.heap.IsRvs I x t ((x.length:Int)-1-(i:Int))) 0 {s with heap:=h₂,toks:=tk}:=⟨Lo _,hst₁.2.at λo e=>keep I o (Ne.symm hSI) e⟩;refine codeAny_extend_loopS W hn _ hSf _ x.length 0 _ _ _ rfl (Lo _) hst₂ hS₂ (ItemsOf.nil _) λs' acc' c' hm hS' hacc=>?_;show wpAny _ A (load s.heap.objs.size >>= _) _ _ s';refine q04 (wpAny_load hS' ?_);refine q05 (hQ s' acc' ?_ hacc);exact⟨λb ob hb e=>hm.heap b ob (λhm'=>by
    rcases Lf.mp hm' with e1 | hm'
    ·exact q0Q (e1▸Lq e) (Lw _)
    ·exact hb hm') (keep b ob (λe1=>q0Q (e1▸Lq e) (Lw _)) (K2 _ e)),hm.gens,hm.drawn,hm.os,Lv htk hm.toks⟩
 have quiet:=plainId_quiet F.plain_extend_loop (⟨[.ref s.heap.objs.size,.ref I,.ref s.heap.objs.size],[]⟩:Args)
 split
 ·refine q04 (wpAny_rule ?_)
  show wpAny _ A.in1 ((updateSeq s.heap.objs.size (·.push .none) >>= λ_=>updateSeq s.heap.objs.size (·.pop)) >>= _) _ _ _;refine q04 (q04 (wpAny_updateSeq hS₁ rfl ?_ (by simp) (by simp)));have q1:=PySem.IsL.update (h:=s.heap.push {cls:=.type "list",data:=.seq ([]:List Value).toArray}) (l:=s.heap.objs.size) (items:=([]:List Value).toArray) (n:=0) hS₁ (·.push .none);refine wpAny_updateSeq q1 rfl ?_ (by simp;omega) (by simp);have q2:=PySem.IsL.update q1 (·.pop);exact q05 ⟨quiet,fin _ _ (λb o hb e=>(K7 _ _ (Ne.symm hb)).trans ((K7 _ _ (Ne.symm hb)).trans e)) (show _=some ({cls:=.type "list",data:=.seq ([]:List Value).toArray _}:Obj) from q2)⟩
 ·exact q05 ⟨quiet,fin _ _ (λb o hb e=>e) hS₁⟩
theorem BQ{sep:Str}{t:Tok}{Q:LV}(hh:A.handled=none)(hit:s.heap.IsRvs I x t ((x.length:Int)-1))(hz:x.length<=1000)(hsep:sep.length<=1000)
  (h:∀(s':LZ) (t':Tok) (k:Nat),(∀b o,b≠I->s.heap.get? b=some o->s'.heap.get? b=some o)->s'.gens=s.gens->s'.drawn=s.drawn->s'.os=s.os ->
   Q (.str (Txt.join sep (x.cps.toList.reverse.map λc=>(⟨#[c]⟩:Str))) t') {s' with toks:=k}):wpAny (model prog w) A (call (.builtin "str.join") [.str sep t0,.ref I]) Q E s:=by
 have hs:sizeLine=16777216:=q0W;refine wpAny_call (codeAny_call_builtin F.slot_str_join.plain F.entry_str_join (F.slot_str_join.check _ _ _ _ _ _ _ _ (typeIs_str _ _ _) (F.args_str_join_2 _ _) ?_));rw[join_tree_other];refine q04 (wpAny_typeOf hit.typeIs ?_);show wpAny _ A.in1 ((pyIter (.ref I)).tryCatch _ >>= λT=>collect T >>= λm=>joinTail sep m) _ _ s;refine q04 (wpAny_tryCatch (gD hit ?_));refine q04 (j_ hh hit ⋯ λs' u B d=>?_);obtain⟨l,C⟩:=exists_strValues u.toList λv U=>by
  obtain⟨j,D,rfl⟩:=Array.mem_iff_getElem.mp (Array.mem_toList_iff.mp U);obtain⟨c,S,_,e⟩:=d.2 j _ (Array.getElem?_eq_getElem D);exact⟨_,_,e⟩
 have n:l.map (·.1)=x.cps.toList.reverse.map λc=>(⟨#[c]⟩:Str):=by
  have Z:l.length=x.length:=by
   have q:=q0R List.length C;simp[strValues]at q;rw[q];exact d.1
  refine List.ext_getElem (by simp[Z];rfl) λj h1 h2=>?_;simp only[List.getElem_map,List.getElem_reverse];have D:j<l.length:=by simpa using h1
  have Y:u.toList[j]?=some (Value.str (l[j]).1 (l[j]).2):=by
   rw[<- C];simp[strValues,D]
  have L:u[j]?=some (Value.str (l[j]).1 (l[j]).2):=by simpa using Y
  obtain⟨c,S,R,e⟩:=d.2 j _ L
  injection e with O _
  rw[O];have J:x.length-1-j<x.cps.size:=by have:x.length=x.cps.size:=rfl;omega
  rw[Array.getElem?_eq_getElem J]at R;have G:=q0S R;rw[<- G];simp only[Array.length_toList,Array.getElem_toList]
  rfl
 rw[<- C];have i:JoinOk sep (l.map (·.1))=true:=by
  unfold JoinOk;rw[StrLaws.joinTotal];have O:((l.map (·.1)).map (·.length)).sum=x.length:=by
   rw[n,Le];have:((λy:Str=>y.length)∘λc=>(⟨#[c]⟩:Str))=λ_=>1:=by funext c;rfl
   rw[this,List.map_const',List.sum_replicate_nat];simp
   rfl
  have e2:(l.map (·.1)).length=x.length:=by rw[n];simp;rfl
  rw[O,e2];have:x.length*sep.length<=1000*1000:=Nat.mul_le_mul hz hsep;unfold tooLong;rw[q08 ⋯]
  rfl
 have a:=λt' k=>h s' t' k (λb o J e=>B.heap b o (λz=>J (K4.mp z)) e) B.gens B.drawn B.os;unfold JoinOk at i;rw[Bool.not_eq_true']at i;have g:Gives (joinTail sep (strValues l)) (joinMade sep l):=by
  have M:=gives_joinTail sep l i;cases l with
  |nil=>exact M
  |cons p r=>cases r with
   |nil=>exact M
   |cons q r'=>exact M
 rw[<- n]at a;exact g prog w A (wants Q E) s' (post_join l ⟨joinFit_length i,a⟩)
end
namespace F
theorem pQ:Slot "reversed" "__init__" "object.__init__":=
 .of (owner:="object") (n:="__init__") (by rw[typeLookup_type,builtinLookup_eq_fast];kernel_rfl) (by decide +kernel) (by decide +kernel) (by decide +kernel)
  (by first | exact .inl (by decide +kernel) | exact .inr (by decide +kernel)) (by rw[isSubtype_type];kernel_rfl)
theorem yh:mroOf (.type "reversed")=pure [.type "reversed",.type "object"]:=by rw[mroOf_type];kernel_rfl
theorem pE:typeLookup (.type "reversed") "__new__"=pure (some (.builtin "reversed.__new__")):=by rw[typeLookup_type,builtinLookup_eq_fast];kernel_rfl
theorem rvs_called:TypeCalled "reversed" "reversed.__new__" "object.__init__":=
 ⟨by decide +kernel,by decide +kernel,⟨_,_,yh⟩,madeBy_type yh pE (by decide +kernel),by decide +kernel,by rw[isSubtype_type];kernel_rfl,pQ⟩
theorem rvs_typeCall_1(a:Value):checkTypeCall "reversed" ⟨[a],[]⟩=pure ():=by kernel_rfl
theorem rvs_newCall_1(a:Value):checkBuiltinCall "reversed.__new__" ⟨[.type "reversed",a],[]⟩=pure ():=by kernel_rfl
theorem rvs_entry_new:entryFor table "reversed.__new__"=some Builtin.«reversed.__new__»:=entryFor_of_tree (by kernel_rfl)
theorem rvs_sub:isSubtype (.type "reversed") (.type "reversed")=pure true:=by rw[isSubtype_type];kernel_rfl
theorem rvs_nostr:typeLookup (.type "str") "__reversed__"=pure none:=by rw[typeLookup_type,builtinLookup_eq_fast];kernel_rfl
end F
section
variable {prog:L8}{w:Mb}{A:Ma}{E:LV}{s:LZ}
theorem r8(a:Value):Builtin.SmallTypes.newClass "reversed" ⟨[.type "reversed",a],[]⟩=pure (.type "reversed",[a]):=by
 unfold Builtin.SmallTypes.newClass;simp only[isType,F.rvs_sub,pure_bind,Bool.not_true,q0a,if_false]
theorem qd(x:Str)(t:Tok)(hz:x.length<=sizeLine):Meets (Builtin.«reversed.__new__» ⟨[.type "reversed",.str x t],[]⟩)
  (λ_ R s=>R (.ok (.ret (.ref s.heap.objs.size))) {s with heap:=s.heap.push (xS x t ((x.length:Int)-1)),toks:=s.toks+1+1}):=
 .of_wp λprog w A R s h=>by
  have hs:sizeLine=16777216:=q0W;unfold Builtin.«reversed.__new__»;refine q04 (wpAny_of_eq (r8 _) ?_)
  try dsimp only
  refine q04 (wpAny_of_eq (a:=()) (by first | rfl | kernel_rfl) ?_);refine q04 (wpAny_of_eq (a:=()) (by first | rfl | kernel_rfl) ?_)
  try dsimp only
  refine q04 (wpAny_specialOf (typeIs_str s x t) F.rvs_nostr ?_)
  try dsimp only
  refine q04 ?_;refine q04 (wpAny_isInstance (T:="str") (b:=false) (typeIs_str s x t) (by rw[isSubtype_type];kernel_rfl) ?_);rw[q06 nofun];refine q04 (wpAny_specialOf (typeIs_str s x t) F.slot_str_getitem.lookup ?_);dsimp only
  split
  ·refine q05 ?_
   rw[q06 nofun];refine q04 (P.len_str ⋯ ?_);refine q04 (m:=asInt? _) (q05 ?_);dsimp only;show wpAny _ _ (newObj (.type "reversed") (.fields #[.str x t,rawInt ((x.length:Int)-1)]) >>= λv=>ret v) _ _ _;exact q04 (wpAny_newObj_type (q05 ⟨_,rfl,h⟩))
  ·rename_i hn
   exact q0Q (by decide +kernel) hn
theorem kK{x:Str}{t:Tok}{Q:LV}(hz:x.length<=sizeLine)
  (h:Q (.ref s.heap.objs.size) {s with heap:=s.heap.push (xS x t ((x.length:Int)-1)),toks:=s.toks+1+1}):wpAny (model prog w) A (call (.type "reversed") [.str x t]) Q E s:=
 callType_new F.rvs_called nofun (F.rvs_typeCall_1 _) (F.rvs_newCall_1 _) (λobj=>F.args_object_init_2 obj _) F.rvs_entry_new (qd x t hz) ⟨⟨_,K8 _ rfl,rfl⟩,h⟩
end
end PySem
namespace L2
open PySem PySem.Spec PyProof.Rows
def eJ(env:Env):List (Str×NameKind)->List (Str×Addr)->List (Str×Addr)
 | [],acc=>acc
 | (n,k)::r,acc=>if k==.free then eJ env r ((n,(env.cells.lookup n).getD 0)::acc) else eJ env r acc
theorem mD{env:Env}:∀(ns:List (Str×NameKind)) (acc:List (Str×Addr)),(∀x∈ns,x.2=.free->∃c,env.cells.lookup x.1=some c) ->
  (forIn ns acc fun(x:Str×NameKind) (cs:List (Str×Addr))=>(if x.2==.free then do
    let c <- cellOf env x.1
    pure (ForInStep.yield ((x.1,c)::cs))
   else pure (ForInStep.yield cs):Sem (ForInStep (List (Str×Addr)))))=pure (eJ env ns acc)
 | [],acc,_=>rfl
 | (n,k)::r,acc,h=>by
  have ih:=λa=>mD (env:=env) r a λx hx=>h x (Lg _ hx);rw[List.forIn_cons]
  by_cases hk:k=.free
  ·subst hk
   obtain⟨c,hc⟩:=h (n,.free) q0B rfl;have hc':env.cells.lookup n=some c:=hc;have e1:cellOf env n=pure c:=by unfold cellOf;rw[hc']
   simp only[eJ,hc',q0L];show((do let c <- cellOf env n;pure (ForInStep.yield ((n,c)::acc))) >>= _)=_;rw[e1,pure_bind,pure_bind];exact ih _
  ·have b:(k==NameKind.free)=false:=by simpa using hk
   simp only[eJ,b,q0a,if_false];rw[pure_bind];exact ih _
theorem iP{env:Env}{scope:Scope}(h:∀x∈scope.names,x.2=.free->∃c,env.cells.lookup x.1=some c) :
  closureFor scope env=pure (eJ env scope.names []):=by
 unfold closureFor;have e:=mD (env:=env) scope.names [] h;have a:(forIn scope.names ([]:List (Str×Addr)) λx b=>(match x with
   | (name,kind)=>if kind==.free then do
     let c <- cellOf env name
     pure (ForInStep.yield ((name,c)::b))
    else pure (ForInStep.yield b):Sem (ForInStep (List (Str×Addr)))))=pure (eJ env scope.names []):=e
 simp only[]at a ⊢
 first
  | (rw[a];rfl)
  | (erw [a];rfl)
theorem gU{env:Env}:∀{ns:List (Str×NameKind)} {acc:List (Str×Addr)} {x:Str} {c:Addr},(∀y∈ns,y.2=.free->∃c,env.cells.lookup y.1=some c) ->
  (∀y c,acc.lookup y=some c->env.cells.lookup y=some c)->(eJ env ns acc).lookup x=some c->env.cells.lookup x=some c
 | [],_,_,_,_,ha,e=>ha _ _ e
 | (n,k)::r,acc,x,c,h,ha,e=>by
  have hr:∀y∈r,y.2=.free->∃c,env.cells.lookup y.1=some c:=λy hy=>h y (Lg _ hy);unfold eJ at e
  by_cases hk:k=.free
  ·subst hk
   rw[q07 (by simp)]at e;obtain⟨c',hc⟩:=h (n,.free) q0B rfl;have hc':env.cells.lookup n=some c':=hc;refine gU hr (λy d z=>?_) e;rw[hc',q0L,List.lookup_cons]at z
   by_cases q:y=n
   ·subst q
    simp at z;subst z;exact hc'
   ·have q':(y==n)=false:=by simpa using q
    rw[q']at z;exact ha y d z
  ·rw[q06 (by simpa using hk)]at e
   exact gU hr ha e
theorem m7{env:Env}:∀{ns:List (Str×NameKind)} {acc:List (Str×Addr)} {x:Str},((∃c,acc.lookup x=some c)\/(x,NameKind.free)∈ns)->∃c,(eJ env ns acc).lookup x=some c
 | [],_,_,h=>by
  rcases h with h | h
  ·exact h
  ·exact nomatch h
 | (n,k)::r,acc,x,h=>by
  unfold eJ
  by_cases hk:k=.free
  ·subst hk
   rw[q07 (by simp)];refine m7 ?_
   by_cases q:x=n
   ·subst q
    left
    simp[List.lookup_cons]
   ·have q':(x==n)=false:=by simpa using q
    rcases h with⟨c,h⟩ | h
    ·exact .inl ⟨c,by rw[List.lookup_cons,q'];exact h⟩
    ·rcases Lf.mp h with z | z
     ·cases z
      exact q0Q rfl q
     ·exact .inr z
  ·rw[q06 (by simpa using hk)]
   refine m7 ?_;rcases h with h | h
   ·exact .inl h
   ·rcases Lf.mp h with z | z
    ·cases z
     exact q0Q rfl hk
    ·exact .inr z
def uN(scope osc:Scope):Scope:=
 {scope with names:=scope.names.map fun(n,k)=>if(k==.free&&osc.kind==.function&&osc.names.lookup n==some .cell) then(n,.cell) else(n,k)}
def AG(scope osc:Scope):Bool:=
 (scope.kind==.function)&&(osc.kind==.function)&&scope.names.all fun(n,k)=>(k != .free || !scope.names.contains (n,NameKind.cell))&&(k != .local||scope.names.lookup n==some .local) &&
  (k != .free||osc.names.lookup n==some .cell||osc.names.lookup n==some .free)&&(k != .free||(uN scope osc).names.lookup n != some .local)
structure bz(scope osc:Scope):Prop where
 kind:scope.kind=.function
 sep:∀x∈scope.names,x.2=.free->(x.1,NameKind.cell)∉scope.names
 loc:∀x∈scope.names,x.2=.local->scope.names.lookup x.1=some .local
 free:∀x∈scope.names,x.2=.free->osc.names.lookup x.1=some .cell\/osc.names.lookup x.1=some .free
 nl:∀x∈scope.names,x.2=.free->(uN scope osc).names.lookup x.1≠some .local
theorem bz.of{scope osc:Scope}(h:AG scope osc=true):bz scope osc:=by
 unfold AG at h;rw[q0O,q0O,LL]at h;obtain⟨⟨h1,h0⟩,h2⟩:=h;refine⟨by simpa using h1,λx a e=>?_,λx a e=>?_,λx a e=>?_,λx a e=>?_⟩
 all_goals
  obtain⟨n,k⟩:=x;have q:=h2 (n,k) a;simp only[q0O,Bool.or_eq_true,bne_iff_ne,beq_iff_eq]at q
 ·have z:=q.1.1.1.resolve_left (λz=>z e)
  simpa using z
 ·exact q.1.1.2.resolve_left (λz=>z e)
 ·rcases q.1.2 with(z | z) | z
  ·exact q0Q e z
  ·exact .inl z
  ·exact .inr z
 ·exact q.2.resolve_left (λz=>z e)
theorem fj{osc:Scope}:∀{ns:List (Str×NameKind)} {x:Str} {k':NameKind},
  (ns.map fun(n,k)=>if(k==NameKind.free&&osc.kind==.function&&osc.names.lookup n==some .cell) then(n,NameKind.cell) else(n,k)).lookup x=some k' ->
  (k'=.cell\/k'=.free)->(x,NameKind.free)∈ns\/(x,NameKind.cell)∈ns
 | [],_,_,h,_=>by simp at h
 | (n,k)::r,x,k',h,hk'=>by
  rw[Lu]at h
  by_cases q:x=n
  ·subst q
   by_cases z:(k==NameKind.free&&osc.kind==.function&&osc.names.lookup x==some .cell)=true
   ·have:k=.free:=by
     simp only[q0O,beq_iff_eq]at z;exact z.1.1
    subst this;exact .inl q0B
   ·simp only[z,q0a,if_false]at h
    rw[List.lookup_cons]at h;simp at h;subst h;rcases hk' with e | e
    ·subst e;exact .inr q0B
    ·subst e;exact .inl q0B
  ·have a:(x==n)=false:=by simpa using q
   refine(fj (osc:=osc) (k':=k') (ns:=r) (x:=x) ?_ hk').imp (Lg _) (Lg _)
   by_cases z:(k==NameKind.free&&osc.kind==.function&&osc.names.lookup n==some .cell)=true
   ·simp only[z,if_true]at h
    rw[List.lookup_cons,a]at h;exact h
   ·simp only[z,q0a,if_false]at h
    rw[List.lookup_cons,a]at h;exact h
theorem iM:∀(ns:List (Str×NameKind)) (n:Nat) (acc:List (Str×Addr)),cellsFrom n ns acc=cellsFrom n ns []++acc
 | [],_,_=>rfl
 | (x,k)::r,n,acc=>by
  unfold cellsFrom
  split
  ·rw[iM r (n+1) ((x,n)::acc),iM r (n+1) [(x,n)],Lz];rfl
  ·exact iM r n acc
theorem r9:∀{ns:List (Str×NameKind)} {n:Nat} {x:Str} {c:Addr},(x,c)∈cellsFrom n ns []->(x,NameKind.cell)∈ns
 | [],_,_,_,h=>nomatch h
 | (y,k)::r,n,x,c,h=>by
  unfold cellsFrom at h
  split at h
  ·rename_i hk
   rw[iM]at h;rcases Ld.mp h with h | h
   ·exact Lg _ (r9 h)
   ·cases K4.mp h
    have:k=.cell:=by simpa using hk
    subst this;exact q0B
  ·exact Lg _ (r9 h)
theorem sK:∀{ns:List (Str×NameKind)} {n:Nat} {x:Str} {acc:List (Str×Addr)},((x,NameKind.cell)∈ns\/∃c,acc.lookup x=some c)->∃c,(cellsFrom n ns acc).lookup x=some c
 | [],_,_,_,h=>h.elim (λz=>nomatch z) id
 | (y,k)::r,n,x,acc,h=>by
  unfold cellsFrom
  split
  ·refine sK ?_
   by_cases q:x=y
   ·subst q
    exact .inr ⟨n,by simp[List.lookup_cons]⟩
   ·have q':(x==y)=false:=by simpa using q
    rcases h with h | ⟨c,h⟩
    ·rcases Lf.mp h with z | z
     ·cases z;exact q0Q rfl q
     ·exact .inl z
    ·exact .inr ⟨c,by rw[List.lookup_cons,q'];exact h⟩
  ·rename_i hk
   refine sK ?_;rcases h with h | h
   ·rcases Lf.mp h with z | z
    ·cases z;exact q0Q rfl hk
    ·exact .inl z
   ·exact .inr h
def dL(env:Env)(scope:Scope)(C:Addr):List (Str×Addr):=cellsFrom (C+1) scope.names (eJ env scope.names [])
theorem kQ:∀{ns:List (Str×NameKind)} {n:Nat} {x:Str} {c:Addr},(x,c)∈cellsFrom n ns []->n<=c
 | [],_,_,_,h=>nomatch h
 | (y,k)::r,n,x,c,h=>by
  unfold cellsFrom at h
  split at h
  ·rw[iM]at h
   rcases Ld.mp h with h | h
   ·exact Lv (Nat.le_succ _) (kQ h)
   ·cases K4.mp h
    exact Ln _
  ·exact kQ h
theorem nZ:∀{ns:List (Str×NameKind)} {n:Nat},(cellsFrom n ns []).Pairwise λx y=>x.2≠y.2
 | [],_=>List.Pairwise.nil
 | (y,k)::r,n=>by
  unfold cellsFrom
  split
  ·rw[iM]
   refine List.pairwise_append.mpr ⟨nZ,by simp,λa ha b hb e=>?_⟩;cases K4.mp hb;have:=kQ (x:=a.1) (c:=a.2) ha;rw[e]at this;exact q0Q this (Nat.not_succ_le_self _)
  ·exact nZ
theorem ik{env:Env}{scope:Scope}{c:Addr}(h:(dL env scope C).lookup x=some c) :
  ((x,c)∈cellsFrom (C+1) scope.names []/\C<c/\(x,NameKind.cell)∈scope.names)\/((cellsFrom (C+1) scope.names []).lookup x=none/\(eJ env scope.names []).lookup x=some c):=by
 unfold dL at h;rw[iM,List.lookup_append]at h;cases q:(cellsFrom (C+1) scope.names []).lookup x with
 |none=>rw[q]at h;exact .inr ⟨rfl,h⟩
 |some d=>
  rw[q]at h;cases h;have:=mem_of_lookup q;exact .inl ⟨this,kQ this,r9 this⟩
theorem B6{ns:List (Str×NameKind)}{x:Str}(h:(x,NameKind.cell)∉ns):(cellsFrom n ns []).lookup x=none:=by
 cases q:(cellsFrom n ns []).lookup x with
 |none=>rfl
 |some d=>exact q0Q (r9 (mem_of_lookup q)) h
section
variable {M:Model}{A:Ma}{E:LV}{s:LZ}
theorem eO{scope:Scope}{globals:Addr}{closure:List (Str×Addr)}{qual:Str}{func:Mc}{code:Value}{outer:Env}{builtins:Addr}{Q:Env->Shared->Prop}
  (hQ:Q (newEnv scope s.heap.objs.size globals (cellsFrom (s.heap.objs.size+1) scope.names closure) qual func code (some outer) builtins) {s with heap:=pushCells (s.heap.push {cls:=.type "dict",data:=.dict #[]}) scope.names}) :
  wpAny M A (newFunctionEnv scope globals closure [] qual func code (some outer) builtins) Q E s:=by
 simp only[newFunctionEnv,Option.isSome_some,if_true];simp only[newEnv]at hQ;refine q04 (wpAny_alloc ?_);refine q04 (wpAny_layCells _ (λname a cells=>by cases b:a==NameKind.cell<;>simp[b]) _ _ _ _ ?_);rw[show({s with heap:=s.heap.push {cls:=.type "dict",data:=.dict #[]} }:Shared).heap.objs.size=s.heap.objs.size+1 from Heap.size_push ..];rw[List.forIn_nil];exact q04 (q05 (q05 hQ))
end
def Cx.blk(X:Cx)(N':L9)(s₂:LZ)(H₂:Hp)(scope:Scope)(fp:L5)(C:Addr):Cx where
 prog:=X.prog
 w:=X.w
 K:=X.K
 mg:=X.mg
 base:=X.base
 A:=X.A
 N:=N'
 s₀:=s₂
 H₀:=H₂
 env:=compEnvC scope (dL X.env scope C) C X.env
 outer:=X.stack
 stack:=X.stack
 ex:=fp
 fn:=λx=>scope.names.contains (x,NameKind.cell)
 calm:=X.calm
 pn:=[]
 xe:=λ_ _=>False
def qw(k:Nat)(js:LY)(σ:St):St:=List.replicate k none++js.map λj=>(σ[j]?).join
def pI(own:L9)(js:LY)(N:L9):List Str:=own++js.map λj=>N.getD j Str.empty
section
variable {X:Cx}
theorem Inv.capFree{pins:LX}{σ:St}{scope:Scope}(I:Inv X pins σ H s)(hk:bz scope X.env.scope):∀x∈scope.names,x.2=.free->∃c,X.env.cells.lookup x.1=some c:=
 λx hx e=>I.ok.has x.1 (hk.free x hx e)
theorem Inv.capL{pins:LX}{σ:St}{scope:Scope}{c:Addr}(I:Inv X pins σ H s)(hk:bz scope X.env.scope)(e:(eJ X.env scope.names []).lookup x=some c):X.env.cells.lookup x=some c:=
 gU (I.capFree hk) (λ_ _ z=>by simp at z) e
theorem Inv.blkL{pins:LX}{σ:St}{scope:Scope}{c:Addr}(I:Inv X pins σ H s)(hk:bz scope X.env.scope)(e:(dL X.env scope C).lookup x=some c) :
  ((x,c)∈cellsFrom (C+1) scope.names []/\C<c/\(x,NameKind.cell)∈scope.names)\/X.env.cells.lookup x=some c:=
 (ik e).imp id λz=>I.capL hk z.2
theorem Fz{pins:LX}{σ:St}{scope:Scope}{fp:L5}{C:Addr}(I:Inv X pins σ H s)(hk:bz scope X.env.scope)(hC:s.heap.objs.size<=C)
  (hf:∀b∈fp,mK X pins H b) (ho:∀b∈fp,∃o,s.heap.get? b=some o):(X.blk N' s H scope fp C).Ok where
 mod:=I.ok.mod
 kind:=hk.kind
 glob:=I.ok.glob
 blt:=I.ok.blt
 above:=hC
 inj:=λx y c e1 e2=>by
  have low:∀z,X.env.cells.lookup z=some c->c<C:=λz e=>by
   obtain⟨v,q⟩:=I.cell z c e;exact Li q.lt hC
  rcases I.blkL hk e1 with⟨a1,a2,_⟩ | a<;>rcases I.blkL hk e2 with⟨b1,b2,_⟩ | b
  ·exact name_of_addr nZ a1 b1
  ·exact q0Q (low _ b) (Nat.not_lt.mpr (q0P a2))
  ·exact q0Q (low _ a) (Nat.not_lt.mpr (q0P b2))
  ·exact I.ok.inj x y c a b
 has:=λx h=>by
  refine sK ?_;have z:(x,NameKind.free)∈scope.names\/(x,NameKind.cell)∈scope.names:=by
   rcases h with h | h
   ·exact fj (osc:=X.env.scope) h (.inl rfl)
   ·exact fj (osc:=X.env.scope) h (.inr rfl)
  rcases z with z | z
  ·exact .inr (m7 (.inr z))
  ·exact .inl z
 cab:=λx c z e=>by
  have k:(x,NameKind.cell)∈scope.names:=by
   have j:scope.names.contains (x,NameKind.cell)=true:=z
   simpa using j
  have i:(dL X.env scope C).lookup x=some c:=e;rcases ik i with⟨_,a,_⟩ | ⟨a,_⟩
  ·exact Lv hC (q0P a)
  ·obtain⟨d,q⟩:=sK (n:=C+1) (acc:=[]) (.inl k)
   rw[a]at q;cases q
 hd:=I.ok.hd
 frames:=I.ok.frames
 stk:=.inl rfl
 exf:=λb g=>⟨λe=>by
  obtain⟨o,q⟩:=ho b g;have i:b=C:=e;rw[i]at q;exact q0Q (Lq q) (Nat.not_lt.mpr hC),λx c e=>by
  rcases I.blkL hk e with⟨_,a,_⟩ | a
  ·obtain⟨o,q⟩:=ho b g
   intro z;rw[z]at a;exact q0Q (Li (Lq q) hC) (Nat.not_lt.mpr (q0P a))
  ·exact(hf b g).2.2.2.2.1 x c a⟩
 bs:=I.bs
 bsz:=Lv I.ok.bsz I.sz
 noex:=λb o e g=>by
  rcases(hf b g).2.2.2.1 with z | z
  ·exact I.ok.noex b o e z
  ·exact q0Q (Lq (I.ok.bs b o e).1) (Nat.not_lt.mpr z)
 exfs:=λb g l=>by
  rcases Lf.mp (I.stkSub b l) with z | z
  ·exact(hf b g).2.1 z
  ·exact(hf b g).2.2.1 z
 funs:=I.stack
 frf:=I.stkFree
theorem zt{pins:LX}{σ:St}{s1:LZ}{own:L9}{js:LY}{scope:Scope}{fp:L5}{C:Addr}(I:Inv X pins σ H s)(hk:bz scope X.env.scope)(hC:s.heap.objs.size<=C)
  (hf:∀b∈fp,mK X pins H b) (ho:∀b∈fp,∃o,s.heap.get? b=some o) (hos:s1.os=s.os) (hg:s1.gens=s.gens) (hn:s1.heap.Ns C m) (keep:∀b o,s.heap.get? b=some o->s1.heap.get? b=some o)
  (hown:∀x c,(x,c)∈cellsFrom (C+1) scope.names []->s1.heap.IsCell c none) (hcap:(js.all λj=>scope.names.contains (X.N.getD j Str.empty,NameKind.free))=true) :
  Inv (X.blk (pI own js X.N) s H scope fp C) [] (qw own.length js σ) H s1:=by
 have cl:=fun{x:Str} {c:Addr} (e:(eJ X.env scope.names []).lookup x=some c)=>gU (I.capFree hk) (λ_ _ z=>by simp at z) e;refine⟨Fz I hk hC hf ho,hos,hg▸I.bare,Un.kept keep,⟨m,hn,λi x v e1 Z Y=>?_⟩,λx c e=>?_,I.hok.fresh hC,λx c e=>(I.blkL hk e).elim (λz=>I.hok.fresh (Lv hC (q0P z.2.1))) λz=>I.freeC x c z,λp O=>(nomatch O),I.hok.kept keep,?_⟩
 ·have d:(own++js.map λj=>X.N.getD j Str.empty)[i]?=some x:=e1
  have a:(List.replicate own.length none++js.map λj=>(σ[j]?).join)[i]?=some (some v):=Z
  by_cases y:i<own.length
  ·rw[Ll (by rw[List.length_replicate];exact y),List.getElem?_replicate,q07 y]at a
   cases a
  ·have k:own.length<=i:=Nat.le_of_not_lt y
   rw[Lk (by rw[List.length_replicate];exact k),List.length_replicate,K5]at a;rw[Lk k,K5]at d;cases B:js[i-own.length]? with
   |none=>rw[B]at d;cases d
   |some j=>
    rw[B]at d a;have J:X.N.getD j Str.empty=x:=q0S d;have n:(σ[j]?).join=some v:=q0S a;have G:σ[j]?=some (some v):=by
     cases q:σ[j]? with
     |none=>rw[q]at n;cases n
     |some z=>rw[q]at n;simp at n;rw[n]
    have w:j<X.N.length:=by rw[<- I.len];exact(K1.mp G).1
    have T:X.N[j]?=some x:=by rw[<- J,q0A,K0 w];rfl
    have r:(x,NameKind.free)∈scope.names:=by
     have q:=LL.mp hcap j (K6 B);rw[J]at q
     simpa using q
    have D:=hk.free _ r rfl;obtain⟨mo,hno,R⟩:=I.loc;obtain⟨u,L,M⟩:=R j x v T G (D.elim (λz=>.inr (.inl z)) λz=>.inr (.inr z));refine⟨u,L,?_⟩;rcases M with⟨g,_⟩ | ⟨g,c,U,S⟩
    ·rcases D with z | z
     ·rw[show X.env.kindOf x=X.env.scope.names.lookup x from rfl,z]at g;cases g
     ·rw[show X.env.kindOf x=X.env.scope.names.lookup x from rfl,z]at g;cases g
    ·obtain⟨c',l⟩:=m7 (env:=X.env) (ns:=scope.names) (acc:=[]) (x:=x) (.inr r)
     have:=cl l;rw[U]at this;cases this;refine .inr ⟨?_,c,?_,S.keeps keep⟩
     case refine_2=>
      show(dL X.env scope C).lookup x=some c;unfold dL;rw[iM,List.lookup_append,B6 (hk.sep _ r rfl)];exact l
     -- its kind within the block
     rcases Y with z | z | z
     ·exact q0Q z (hk.nl _ r rfl)
     ·exact .inl z
     ·exact .inr z
 ·rcases I.blkL hk e with z | z
  ·exact⟨none,hown x c z.1⟩
  ·obtain⟨v,z⟩:=I.cell x c z
   exact⟨v,z.keeps keep⟩
 ·show(List.replicate own.length none++js.map λj=>(σ[j]?).join).length=(own++js.map λj=>X.N.getD j Str.empty).length
  simp
def EE(env:Env)(ifs:Md):Sem Bool:=forIn ifs true λc r=>if r=true then do let ok <- isTrue c env (eval c env);pure (ForInStep.yield ok) else pure (ForInStep.yield r)
theorem uh{prog:L8}{A:Ma}{R:Result->Shared->Prop}{s:LZ}{elt target iter:Expr}{ifs:Md}{scope:Scope}{pos:Pos}{it acc:Value}{env:Env}(I:Nat->Shared->Prop)
  (turn:∀n s,I n s->wpAny (model prog w) A (pyNext it) (λr s₁=>match r with
   |none=>R (.ok .next) s₁
   |some v=>wpAny (model prog w) A (letOwnedTupleGo target it v) (λ_ s₁'=>wpAny (model prog w) A (assign target env v) (λ_ s₂=>
     wpAny (model prog w) A (EE env ifs) (λok s₃=>
      if ok=true then wpAny (model prog w) A (eval elt env) (λx s₄=>
       wpAny (model prog w) A (call (.builtin "list.append") [acc,x]) (λ_ s₅=>∃m,m<n/\I m s₅) (λ_ _=>False) s₄) (λ_ _=>False) s₃
      else ∃m,m<n/\I m s₃) (λ_ _=>False) s₂) (λ_ _=>False) s₁') (λ_ _=>False) s₁) (λ_ _=>False) s)
  (n:Nat) (h:I n s) :
  codeAny (model prog w) A (.compLoop (.ListComp elt [⟨target,iter,ifs,0⟩] scope pos) 0 it acc env) R s:=by
 refine codeAny_loop rfl I (λn s k=>?_) n h;show wpAny _ A ((compTurn (.ListComp elt [⟨target,iter,ifs,0⟩] scope pos) 0 it acc env).onRaise (λx=>do noteFrame x env;theTreesLotGoes x)) _ _ s;refine wpAny_noted ?_;rw[compTurn_list];have up:∀{α:Type} {t:Sem α} {Q Q':α->Shared->Prop} {E':LV} {s:LZ},wpAny (model prog w) A t Q (λ_ _=>False) s->(∀a s,Q a s->Q' a s)->wpAny (model prog w) A t Q' E' s:=
  λh j=>q0X h j λ_ _ f=>f.elim
 refine q04 (wpAny_standAt (q04 (up (turn n s k) λr s₁ d=>?_)));cases r with
 |none=>exact q05 d
 |some v=>
  refine q04 (up d λ_ s₁' b=>q04 (up b λ_ s₂ i=>q04 (up i λok s₃ c=>?_)));cases ok with
  |false=>exact q05 ⟨rfl,c⟩
  |true=>
   exact q04 (q04 (up c λx s₄ g=>q04 (up g λ_ s₅ e=>q05 (q05 ⟨rfl,e⟩))))
def Gs(X:Cx)(ifs:Md)(t:TT):Prop:=
 ∀(pins:LX) (s:LZ) (σ:St) (H:Hp) (Q:Bool->Hp->Prop),Inv X pins σ H s->t σ H Q->wpAny (model X.prog X.w) X.A (EE X.env ifs) (TP X pins σ Q) X.xe s
def yw:TT:=λ_ H Q=>Q true H
theorem cv:Gs X [] yw:=λpins s σ H Q I h=>wpAny_tests_nil ⟨H,I,h⟩
theorem nh{t:TT}(h:PT X c t):Gs X [c] t:=λpins s σ H Q I q=>wpAny_tests_one (h pins s σ H Q I q)
def gl(J:It)(g:TG)(ti:TT)(te:TE)(σ:St)(H:Hp)(Q:List V->Hp->Prop):Prop:=
 ∃W:Nat->Nat->List V->St->Hp->Prop,(∃m,W 0 m [] σ H)/\∀i m acc σ' H',W i m acc σ' H' ->
  acc.length<sizeLine/\((J.stop i H'/\Q acc H') \/
   (J.go i H'/\∃N:List V->St->Hp->Prop,(∀acc' σ2 H2,N acc' σ2 H2->∃m',m'<m/\W (i+1) m' acc' σ2 H2) /\
    ∀x H2,J.yld i H' x H2->g x σ' H2 λσ2 H3=>ti σ2 H3 λb H4=>if b=true then te σ2 H4 λv H5=>N (acc++[v]) σ2 H5 else N acc σ2 H4))
def yH(k:Nat)(js:LY)(wi:TI)(g:TG)(ti:TT)(te:TE):TE:=λσ H Q=>wi σ H λJ H1=>gl J g ti te (qw k js σ) H1 λacc H'=>∀l,H' l=none->Q (.ref l) (aG H' l (.lst acc))
abbrev fY(its:L4)(n:Nat):Obj:={cls:=.type "list",data:=.seq its.toArray n}
theorem qT{pins:LX}{σ:St}{H:Hp}{s:LZ}{elt tg iter:Expr}{ifs:Md}{scope:Scope}{pos:Pos}{own:L9}{js:LY}{ti:TT}{te:TE}{fp:L5}{it:Addr}{tn:Nat->Heap->Prop}{E:LV}
  {RR:Value->Addr->Result->Shared->Prop} (hc:X.calm=true) (hk:bz scope X.env.scope) (hcap:(js.all λj=>scope.names.contains (X.N.getD j Str.empty,NameKind.free))=true)
  (hg:∀s H fp C,PG (X.blk (pI own js X.N) s H scope fp C) tg g) (hi:∀s H fp C,Gs (X.blk (pI own js X.N) s H scope fp C) ifs ti) (he:∀s H fp C,PE (X.blk (pI own js X.N) s H scope fp C) elt te)
  (I:Inv X pins σ H s) (T:wM X.prog X.w X.K tg J fp it tn) (st:tn 0 s.heap) (hf:∀b∈fp,mK X pins H b)
  (hW:gl J g ti te (qw own.length js σ) H Q)
  (hRR:∀(D C:Addr) (s':LZ) (H':Hp) (acc:List V) (m:L6),Q acc H'->H' D=none->Inv X pins σ (aG H' D (.lst acc)) s'->s'.heap.Ns C m->aG H' D (.lst acc) C=none->C≠X.env.locals->X.s₀.heap.objs.size<=C ->
   (∀x c,X.env.cells.lookup x=some c->c≠C)->(∀p∈X.pn++pins,p.1≠C)->RR (.ref D) C (.ok .next) s') :
  wpAny (model X.prog X.w) X.A (newList []) (λacc s₃=>wpAny (model X.prog X.w) X.A (newFunctionEnv scope X.env.globals (eJ X.env scope.names []) [] X.env.qual none .none (some X.env)) (λcenv s₄=>
   codeAny (model X.prog X.w) X.A (.compStart (.ListComp elt [⟨tg,iter,ifs,0⟩] scope pos) 0 (.ref it) acc {cenv with scope:=relabel scope X.env}) (RR acc cenv.locals) s₄) E s₃) E s:=by
 obtain⟨W,⟨m0,w0⟩,c0⟩:=hW;refine wpAny_newObj_type (eO ?_);dsimp only;generalize b4:s.heap.push {cls:=.type "list",dict:=none,data:=.seq ([]:List Value).toArray}=H2;generalize d1:pushCells (H2.push {cls:=.type "dict",data:=.dict #[]}) scope.names=h₁;have b1:∀b o,(H2.push {cls:=.type "dict",data:=.dict #[]}).get? b=some o->h₁.get? b=some o:=λb o e=>d1▸pushCells_keeps _ _ b o e;have c6:h₁.Ns H2.objs.size λ_=>none:=by
  have q:(H2.push {cls:=.type "dict",data:=.dict #[]}).Ns H2.objs.size λ_=>none:=Heap.Ns.new ..;exact q.at' λo e=>b1 _ o e
 have b2:∀x c,(x,c)∈cellsFrom (H2.objs.size+1) scope.names []->h₁.IsCell c none:=λx c e=>by
  have ok:=cellsFrom_ok scope.names (H2.push {cls:=.type "dict",data:=.dict #[]}) (H2.objs.size+1) [] ⟨λ_ _ hm=>(nomatch hm),List.Pairwise.nil⟩ (by rw[Heap.size_push];exact Ln _);rw[Heap.size_push,d1]at ok;exact(ok.empty x c e).1
 have hC:H2.objs.size=s.heap.objs.size+1:=by rw[<- b4,Heap.size_push]
 have b5:s.heap.objs.size≠H2.objs.size:=by rw[hC];exact Lj (Lx _)
 have L:s.heap.objs.size<=H2.objs.size:=by rw[hC];exact Nat.le_succ _
 have b8:∀b,b<s.heap.objs.size->b≠H2.objs.size/\b≠s.heap.objs.size:=λb l=>⟨by rw[hC];exact Lj (Nat.lt_succ_of_lt l),Lj l⟩;have c4:∀b o,s.heap.get? b=some o->h₁.get? b=some o:=λb o e=>b1 b o (K2 _ (b4▸K2 _ e));have d6:h₁.get? s.heap.objs.size=some (fY [] 0):=b1 _ _ (K2 _ (b4▸K8 _ rfl));have a0:∀b∈fp,∃o,s.heap.get? b=some o:=λb l=>let ⟨o,e,_⟩:=T.obj 0 _ st b l;⟨o,e⟩
 have c1:tn 0 h₁:=T.keep 0 _ _ st λb _ o e=>c4 b o e;generalize B:X.blk (pI own js X.N) s H scope fp H2.objs.size=Xb;have I₁:Inv Xb [] (qw own.length js σ) H {s with heap:=h₁}:=B▸zt I hk L hf a0 rfl rfl c6 c4 b2 hcap;have eP:Xb.prog=X.prog:=by rw[<- B];rfl
 have ew:Xb.w=X.w:=by rw[<- B];rfl
 have eK:Xb.K=X.K:=by rw[<- B];rfl
 have eA:Xb.A=X.A:=by rw[<- B];rfl
 have ec:Xb.calm=true:=by rw[<- B];exact hc
 have eE:Xb.env=compEnvC scope (dL X.env scope H2.objs.size) H2.objs.size X.env:=by rw[<- B];rfl
 have ex:Xb.xe=λ_ _=>False:=by rw[<- B];rfl
 have es:Xb.s₀=s:=by rw[<- B];rfl
 have eh:Xb.H₀=H:=by rw[<- B];rfl
 have ef:Xb.fs=kU X.stack:=by rw[<- B];rfl
 have e1:Xb.ex=fp:=by rw[<- B];rfl
 have ep:Xb.pn=[]:=by rw[<- B];rfl
 have eL:Xb.env.locals=H2.objs.size:=by rw[eE];rfl
 have f0:H s.heap.objs.size=none:=I.hok.fresh (Ln _)
 -- D is no iterator's,no frame's
 have d7:∀b∈fp,b≠s.heap.objs.size:=λb l e=>by
  obtain⟨o,q⟩:=a0 b l;rw[e]at q;exact q0Q (Lq q) (Lw _)
 have e9:s.heap.objs.size∉Xb.fs:=λz=>by
  rw[ef]at z;rcases Lf.mp (I.stkSub _ z) with q | q
  ·exact q0Q I.lt (by rw[<- q];exact Lw _)
  ·exact I.nofs (Ln _) q
 have a5:∀x c,Xb.env.cells.lookup x=some c->c≠s.heap.objs.size:=λx c e q=>by
  rcases I.blkL hk (C:=H2.objs.size) (x:=x) (c:=c) (by rw[eE]at e;exact e) with⟨_,z,_⟩ | z
  ·rw[q]at z
   exact q0Q L (Nat.not_le.mpr z)
  ·obtain⟨v,o,ho,_⟩:=I.cell x c z
   rw[q]at ho;exact q0Q (Lq ho) (Lw _)
 have R:∀{pl:LX} {H':Hp},(∀b∈fp,H' b=none)->(∀p∈pl,p.1=s.heap.objs.size)->∀b∈fp,mK Xb pl H' b:=λhn S b l=>by
  refine⟨hn b l,?_,?_,.inl (by rw[e1];exact l),λx c e=>?_,λp c5=>?_⟩
  ·rw[eL];exact(b8 b (let ⟨o,q⟩:=a0 b l;Lq q)).1
  ·rw[ef];intro z
   rcases Lf.mp (I.stkSub b z) with q | q
   ·exact(hf b l).2.1 q
   ·exact(hf b l).2.2.1 q
  ·rcases I.blkL hk (C:=H2.objs.size) (x:=x) (c:=c) (by rw[eE]at e;exact e) with⟨_,z,_⟩ | z
   ·intro q
    rw[q]at z;obtain⟨o,q2⟩:=a0 b l;exact q0Q (Li (Lq q2) L) (Nat.not_lt.mpr (q0P z))
   ·exact(hf b l).2.2.2.2.1 x c z
  ·rw[ep,LO]at c5
   rw[S p c5];exact(d7 b l).symm
 have a6:∀s₃:Shared,s₃={s with heap:=h₁} ->
   codeAny (model X.prog X.w) X.A (.compLoop (.ListComp elt [⟨tg,iter,ifs,0⟩] scope pos) 0 (.ref it) (.ref s.heap.objs.size) (compEnvC scope (dL X.env scope H2.objs.size) H2.objs.size X.env))
    (RR (.ref s.heap.objs.size) H2.objs.size) s₃:=by
  rintro s₃ rfl;refine uh (λn s'=>∃(i:Nat) (acc:List V) (a:L4) (k:Nat) (σ':St) (H':Hp),Inv Xb [] σ' H' s'/\tn i s'.heap/\(∀b∈fp,H' b=none)/\H' s.heap.objs.size=none/\s'.heap.get? s.heap.objs.size=some (fY a k)/\bc acc a/\W i n acc σ' H')
   ?_ m0 ⟨0,[],[],0,_,H,I₁,c1,λb l=>(hf b l).1,f0,d6,.nil,w0⟩
  rintro n s' ⟨i,acc,a,k,σ',H',I',c3,e0,M,e4,Z,w'⟩;obtain⟨c9,tt⟩:=c0 i n acc σ' H' w'
  -- the gathered list,pinned
  have Ip:Inv Xb [(s.heap.objs.size,fY a k)] σ' H' s':=I'.pins_of λp S=>by
   have e:p=(s.heap.objs.size,fY a k):=by simpa using S
   subst e;exact⟨e4,M,by rw[eL];exact b5,e9,λv z=>by cases z⟩
  have b0:∀p∈[(s.heap.objs.size,fY a k)],p.1=s.heap.objs.size:=λp S=>by
   have e:p=(s.heap.objs.size,fY a k):=by simpa using S
   rw[e]
  rcases tt with⟨c2,q⟩ | ⟨go,N,hN,step⟩
  ·have d:=T.done Xb eP ew eK ec i _ s' σ' H' (λ_ _=>False) Ip (R e0 b0) c3 c2
   rw[eA]at d;refine q0X d (λr s1 hr=>?_) λ_ _ z=>z;obtain⟨rfl,I1⟩:=hr;have e3:s1.heap.get? s.heap.objs.size=some (fY a k):=(I1.pin _ (q0C _ (K4.mpr rfl))).1;obtain⟨mC,b3,_⟩:=I1.loc;rw[eL]at b3;obtain⟨oC,_,_,hoC,_⟩:=id b3;have f1:H' H2.objs.size=none:=by have:=I1.free;rwa [eL]at this
   have ub:Un (kU X.stack) fp H H' s.heap s1.heap:=by have:=I1.base;rwa [ef,e1,eh,es]at this
   refine hRR _ _ s1 H' acc mC q M ?_ b3 ?_ ?_ ?_ ?_ ?_
   ·-- dM outside
    refine I.call' (ch:=fp) (by have:=I1.os;rwa [es]at this) ⟨λb o e n1 h1 h2=>ub.keep b o e n1 h1 h2,λb o e n1 h1 h2=>ub.slot b o e n1 h1 h2,λb o e n1 h1=>?_,ub.there,λb xs e=>?_,λb o u e=>?_,λb ps e=>?_⟩ ?_ (by have:=I1.bare;exact this) λb l=>?_
    ·rw[aq (λz=>by rw[z]at e;exact q0Q (Lq e) (Lw _))]
     exact ub.free b o e n1 h1
    ·rw[aq (az (ub.tups b xs e) M)]
     exact ub.tups b xs e
    ·rw[aq (az (ub.frzs b o u e) M)]
     exact ub.frzs b o u e
    ·obtain⟨more,z⟩:=ub.tbls b ps e
     exact⟨more,by rw[aq (az z M)];exact z⟩
    ·intro b u e
     have a7:=I1.hok;rw[eP,ew]at a7
     by_cases l:b=s.heap.objs.size
     ·subst l
      rw[af]at e;cases e;exact⟨q0P c9,a,k,Z,e3⟩
     ·rw[aq l]at e
      refine(a7 b u e).stay (λc v _ z=>z) (λc z=>?_) λc xs z=>?_
      ·rw[aq (az z M)];exact z
      ·rw[aq (az z M)];exact z
    ·exact⟨(hf b l).2.2.2.1,(hf b l).2.1,(hf b l).2.2.2.2.1,(hf b l).2.2.2.2.2⟩
   ·rw[aq b5.symm];exact f1
   ·intro z;have:=I.lt;rw[<- z]at this;exact q0Q this (Nat.not_lt.mpr L)
   ·exact Lv I.sz L
   ·intro x c e z
    obtain⟨v,o,ho,_⟩:=I.cell x c e;rw[z]at ho;exact q0Q (Lq ho) (Nat.not_lt.mpr L)
   ·intro p S z
    have:=(I.pin p S).1;rw[z]at this;exact q0Q (Lq this) (Nat.not_lt.mpr L)
  ·have d:=T.item Xb eP ew eK ec i _ s' σ' H' (λ_ _=>False) Ip (R e0 b0) c3 go
   rw[eA]at d;refine q0X d (λr s1 hr=>?_) λ_ _ z=>z;obtain⟨u,rfl,d2⟩:=hr;refine q0X d2 (λ_ s2 e8=>?_) λ_ _ z=>z;obtain⟨x,e2,I2,r2,y2,a9,f2⟩:=e8;have f3:=I2.pinned (R f2 b0) (T.obj _ _ a9);have G:=B▸hg s H fp H2.objs.size;have d3:=G _ s2 σ' e2 x u _ f3 r2 (step x e2 y2);rw[eP,ew,eA,ex,eE]at d3;refine q0X d3 (λ_ s3 e7=>?_) λ_ _ z=>z;obtain⟨σ3,H3,I3,q3⟩:=e7;have Gi:=B▸hi s H fp H2.objs.size;have d4:=Gi _ s3 σ3 H3 _ I3 q3;rw[eP,ew,eA,ex,eE]at d4;refine q0X d4 (λb s4 e6=>?_) λ_ _ z=>z;obtain⟨H4,I4,q4⟩:=e6;have U:∀{O:LZ} {Y:Hp} {σ5:St},Inv Xb ([(s.heap.objs.size,fY a k)]++oA fp s2.heap) σ5 Y O->O.heap.get? s.heap.objs.size=some (fY a k)/\Y s.heap.objs.size=none/\tn (i+1) O.heap/\∀b∈fp,Y b=none:=fun{O Y σ5} I5=>by
    have pD:=I5.pin (s.heap.objs.size,fY a k) (q0C _ (q0D _ (K4.mpr rfl)));refine⟨pD.1,pD.2.1,T.keep _ _ _ a9 λb l o e=>(I5.pin (b,o) (q0C _ (q0C _ (ia l e)))).1,λb l=>?_⟩;obtain⟨o,e,_⟩:=T.obj _ _ a9 b l;exact(I5.pin (b,o) (q0C _ (q0C _ (ia l e)))).2.1
   have bare:∀{O:LZ} {Y:Hp} {σ5:St} {pl:LX},Inv Xb pl σ5 Y O->Inv Xb [] σ5 Y O:=λI5=>I5.pins_of λp S=>nomatch S;cases b with
   |false=>
    obtain⟨m',hm,w5⟩:=hN _ _ _ q4;obtain⟨a1,a2,a3,a4⟩:=U I4;exact⟨m',hm,i+1,acc,a,k,σ3,H4,bare I4,a3,a4,a2,a1,Z,w5⟩
   |true=>
    have Ge:=B▸he s H fp H2.objs.size;have d5:=Ge _ s4 σ3 H4 _ I4 q4;rw[eP,ew,eA,ex,eE]at d5;refine q0X d5 (λy O e5=>?_) λ_ _ z=>z;obtain⟨v,Y,I5,r5,q5⟩:=e5;obtain⟨m',hm,w5⟩:=hN _ _ _ q5;obtain⟨a1,a2,a3,a4⟩:=U I5;have hl:=Z.length;refine call_meets F.slot_list_append ⟨_,a1,rfl⟩ F.entry_list_append (F.args_list_append_2 _ _) (PySem.list_append s.heap.objs.size a.toArray k y (by rw[K9];omega)) ⟨a1,?_⟩;have qu:=PySem.IsL.update a1 (λa8=>a8.push y);have qe:(a.toArray.push y)=(a++[y]).toArray:=by simp
    rw[qe]at qu;have I6:Inv Xb [] σ3 Y {O with heap:=O.heap.update s.heap.objs.size (Obj.mapSeq λa8=>a8.push y),toks:=O.toks}:=
     (bare I5).turned (λb o l e=>(K7 O.heap _ (Ne.symm l)).trans e) a2 (by rw[eL];exact b5) (.inr (by rw[es];exact Ln _)) a5 (by rw[ep];intro p S;exact nomatch S)
    refine⟨m',hm,i+1,acc++[v],a++[y],_,σ3,Y,I6,T.keep _ _ _ a3 (λb l o e=>(K7 O.heap _ (d7 b l).symm).trans e),a4,a2,qu,Z.append (.cons r5 .nil),w5⟩
 refine codeAny_compStart_list (a6 _ rfl) ?_;exact T.self _ 0 _ _ _ c1 (a6 _ rfl)
theorem cq{elt tg iter:Expr}{ifs:Md}{scope:Scope}{pos:Pos}(own:L9)(js:LY){wi:TI}{g:TG}{ti:TT}{te:TE}(hc:X.calm=true)(hk:bz scope X.env.scope)
  (hcap:(js.all λj=>scope.names.contains (X.N.getD j Str.empty,NameKind.free))=true) (hw:PI X tg iter wi)
  (hg:∀s H fp C,PG (X.blk (pI own js X.N) s H scope fp C) tg g) (hi:∀s H fp C,Gs (X.blk (pI own js X.N) s H scope fp C) ifs ti) (he:∀s H fp C,PE (X.blk (pI own js X.N) s H scope fp C) elt te)
  (hs:autoParam (∀x,foldedSetIterable iter X.env x=pure x) zz4._auto_1):PE X (.ListComp elt [⟨tg,iter,ifs,0⟩] scope pos) (yH own.length js wi g ti te):=by
 intro c s σ H Q I h;rw[eval_ListComp];refine wpAny_comprehension_free (use:=none) rfl hs (iP (I.capFree hk)) hk.kind hk.loc (bT (hw c s σ H _ I h) λv s1 h1=>bT h1 λitv s2 h2=>?_);obtain⟨it,fp,tn,J,H2,rfl,R,T,d,O,L⟩:=h2;refine qT (RR:=λa C=>compPost (model X.prog X.w) X.A X.xe none (EP X c σ Q) a C) (Q:=λa u=>∀l,u l=none->Q (.ref l) (aG u l (.lst a))) hc hk hcap hg hi he R T d O L ?_;intro D C z u a m q M S B r p i n k;refine⟨m,B,λh' y=>?_⟩;exact⟨.ref D,_,S.turned (t':=z.toks) (λb o G e=>(y.2 b G).trans e) r p (.inr i) n k,rfl,q D M⟩
theorem hZ{i:Nat}{x:Str}{elt tg iter:Expr}{ifs:Md}{scope:Scope}{pos spos:Pos}{px:Pos}(own:L9)(js:LY){wi:TI}{g:TG}{ti:TT}{te:TE}(hN:X.N.Nodup)(hxi:X.N[i]?=some x)(hx:Loc X.env.scope x)
  (hsw:swapsWith (.ListComp elt [⟨tg,iter,ifs,0⟩] scope pos) (some (.Name x px)) spos.line X.env=pure true)
  (hc:X.calm=true) (hk:bz scope X.env.scope)
  (hcap:(js.all λj=>scope.names.contains (X.N.getD j Str.empty,NameKind.free))=true) (hw:PI X tg iter wi)
  (hg:∀s H fp C,PG (X.blk (pI own js X.N) s H scope fp C) tg g) (hi:∀s H fp C,Gs (X.blk (pI own js X.N) s H scope fp C) ifs ti) (he:∀s H fp C,PE (X.blk (pI own js X.N) s H scope fp C) elt te)
  (hs:autoParam (∀x,foldedSetIterable iter X.env x=pure x) zz4._auto_1) (hf:autoParam (X.fn x=true\/X.env.scope.names.lookup x=some .local) zz3._auto_1) :
  PS X (.Assign [.Name x px] (.ListComp elt [⟨tg,iter,ifs,0⟩] scope pos) spos) (BK (yH own.length js wi g ti te) (jv i)):=by
 intro c s σ H Dn I h;rw[exec_Assign_Name_used _ _ _ _ hsw];refine q04 (wpAny_standAt (q04 ?_));show wpAny _ _ (do let _ <- comprehension (.ListComp elt [⟨tg,iter,ifs,0⟩] scope pos) scope X.env _ (newList []) false (eval iter X.env) (some (assign (.Name x px) X.env))) _ _ s;refine q04 (q0X (wpAny_comprehension_free (use:=some (assign (.Name x px) X.env)) (Q:=λ_ k=>SP X c Dn .next k) (E:=X.xe) rfl hs (iP (I.capFree hk)) hk.kind hk.loc ?_) (λ_ k q=>q05 (q05 q)) λ_ _ z=>z);refine(bT (hw c s σ H _ I h) λv s1 h1=>bT h1 λitv s2 h2=>?_);obtain⟨it,fp,tn,J,H2,rfl,I2,T,r,f2,hW⟩:=h2;refine qT (RR:=λd C=>compPost (model X.prog X.w) X.A X.xe (some (assign (.Name x px) X.env)) (λ_ k=>SP X c Dn .next k) d C) (Q:=λd S=>∀l,S l=none->jv i (.ref l) σ (aG S l (.lst d)) Dn.nx) hc hk hcap hg hi he I2 T r f2 hW ?_;intro D C k S d m q hD I' U O p G n L;show wpAny _ _ (assign (.Name x px) X.env (.ref D)) _ _ k;refine wpAny_assign_Name (q_ I' hN hxi hx (v:=.ref D) rfl (λB R y=>?_) hf);obtain⟨a,y,Z⟩:=y;have M:C≠a:=by
  rcases Z with z | z
  ·rw[z];exact p
  ·exact(n x a z).symm
 refine⟨m,U.sameBut y M,λh' u=>?_⟩;exact⟨_,_,R.turned (t':=B.toks) (λb o Y e=>(u.2 b Y).trans e) O p (.inr G) n L,q D hD⟩
end
section
variable {K:LW}{g:TG}{ti:TT}{te:TE}{σ:St}{H:Hp}{Q:List V->Hp->Prop}
theorem km{J:It}{n:Nat}(Pv:Nat->List V->St->Hp->Prop)(h0:Pv 0 [] σ H)(hz:∀i acc σ H,Pv i acc σ H->acc.length<sizeLine)(hi:∀i acc σ H,Pv i acc σ H->i<=n)
  (stop:∀acc σ H,Pv n acc σ H->J.stop n H) (go:∀i acc σ H,i<n->Pv i acc σ H->J.go i H)
  (hs:∀i x acc σ H H2,i<n->Pv i acc σ H->J.yld i H x H2->g x σ H2 λσ2 H3=>ti σ2 H3 λb H4=>if b=true then te σ2 H4 λv H5=>Pv (i+1) (acc++[v]) σ2 H5 else Pv (i+1) acc σ2 H4)
  (he:∀acc σ H,Pv n acc σ H->Q acc H) :
  gl J g ti te σ H Q:=by
 refine⟨λi m acc σ H=>Pv i acc σ H/\m=n+1-i,⟨n+1,h0,rfl⟩,?_⟩;rintro i m acc σ' a ⟨w,rfl⟩;refine⟨hz i acc σ' a w,?_⟩;have hle:=hi i acc σ' a w;rcases Nat.lt_or_ge i n with c | hge
 ·refine .inr ⟨go i acc σ' a c w,λacc' σ2 H2=>Pv (i+1) acc' σ2 H2,λacc' σ2 H2 w2=>⟨n+1-(i+1),?_,w2,rfl⟩,λx H2 y=>hs i x acc σ' a H2 c w y⟩
  have:=hi (i+1) acc' σ2 H2 w2;omega
 ·have e:i=n:=by omega
  subst e;exact .inl ⟨stop acc σ' a w,he acc σ' a w⟩
theorem c_{xs:List V}(Pv:Nat->List V->St->Hp->Prop)(h0:Pv 0 [] σ H)(hz:∀i acc σ H,Pv i acc σ H->acc.length<sizeLine)(hi:∀i acc σ H,Pv i acc σ H->i<=xs.length)
  (hl:∀i acc σ H,Pv i acc σ H->aR K H a xs)
  (hs:∀i x acc σ H,xs[i]?=some x->Pv i acc σ H->g x σ H λσ2 H3=>ti σ2 H3 λb H4=>if b=true then te σ2 H4 λv H5=>Pv (i+1) (acc++[v]) σ2 H5 else Pv (i+1) acc σ2 H4)
  (he:∀acc σ H,Pv xs.length acc σ H->Q acc H):gl (zT K a) g ti te σ H Q:=by
 exact km (J:=zT K a) (g:=g) (ti:=ti) (te:=te) (Q:=Q) (n:=xs.length) Pv h0 hz hi (λacc σ H w=>⟨xs,hl _ _ _ _ w,Ln _⟩)
  (λi acc σ H hlt w=>⟨xs,xs[i],hl _ _ _ _ w,K0 hlt⟩) (λi x acc σ H H2 hlt w y=>by obtain⟨rfl,c⟩:=y;exact hs i x acc σ H2 (c xs (hl _ _ _ _ w)) w) he
theorem jV{lo:Int}{n:Nat}(Pv:Nat->List V->St->Hp->Prop)(h0:Pv 0 [] σ H)(hz:∀i acc σ H,Pv i acc σ H->acc.length<sizeLine)(hi:∀i acc σ H,Pv i acc σ H->i<=n)
  (hs:∀i acc σ H,i<n->Pv i acc σ H->g (.int (lo+i)) σ H λσ2 H3=>ti σ2 H3 λb H4=>if b=true then te σ2 H4 λv H5=>Pv (i+1) (acc++[v]) σ2 H5 else Pv (i+1) acc σ2 H4)
  (he:∀acc σ H,Pv n acc σ H->Q acc H):gl (Ao lo n) g ti te σ H Q:=by
 exact km (J:=Ao lo n) (g:=g) (ti:=ti) (te:=te) (Q:=Q) (n:=n) Pv h0 hz hi (λacc σ H w=>Ln _) (λi acc σ H hlt w=>hlt) (λi x acc σ H H2 hlt w y=>by obtain⟨rfl,rfl⟩:=y;exact hs i acc σ H2 hlt w) he
end
structure dl(P:L8)(w:Mb)(K:LW)(mg:L6)(base:Heap)(CX:iy)(k:Nat)(x:Str)(ps:L9)(sp:Sp):Prop where
 ex:∃(f:Addr) (fd:L7),aS P w K mg base CX k f fd ps sp/\mg x=some (.ref f)/\PySem.W.keepIn K (.ref f)=true/\dO K fd ps []
structure NB(mg:L6):Prop where
 len:mg "len"=none
 range:mg "range"=none
 list:mg "list"=none
 tuple:mg "tuple"=none
 isinstance:mg "isinstance"=none
 int:mg "int"=none
 bool:mg "bool"=none
 str:mg "str"=none
 reversed:mg "reversed"=none
 all:mg "all"=none
 enumerate:mg "enumerate"=none
 zip:mg "zip"=none
 sorted:mg "sorted"=none
 set:mg "set"=none
 dict:mg "dict"=none
 min:mg "min"=none
 max:mg "max"=none
 sum:mg "sum"=none
 ValueError:mg "ValueError"=none
section
variable {X:Cx}{CX:iy}{k:Nat}{x:Str}{ps:L9}{sp:Sp}{E:XK}{p pos:Pos}{e:Expr}{es:Md}{t:TA}
theorem aI(C:dl X.prog X.w X.K X.mg X.base CX k x ps sp)(hr:cI k X.A)(hg:Gl X x)(hx:cT CX X E)(ha:PA X (e::es) t)(hdb:autoParam ((x==("__debug__":Str))=false) zz2._auto_1)
  (hst:autoParam (starEach (e::es) X.env=(false,eval e X.env)::starEach es X.env) zz0._auto_1) (hpl:autoParam ((backTo pos (starEach es X.env)).any (·.1)=false) zz0._auto_1):PE X (.Call (.Name x p) (e::es) [] pos) (mj sp [] E t):=by
 obtain⟨f,fd,F,a,b,c⟩:=C.ex;exact Dq F hr hg a b c .nil hx ha hdb hst hpl
end
section
variable {X:Cx}{tg:Expr}
def CB(_ j:Int):Prop:=0<j/\j<18446744073709551616
theorem bY:bD X (binaryOp .FloorDiv) (rI CB λi j=>.int (i/j)):=HU λi j _ _ _ _ _ hc q=>by
 have h1:(0:Int)<j:=hc.1;have h2:j<18446744073709551616:=hc.2;refine floordiv_int ⋯ (by rw[Int.fdiv_eq_ediv_of_nonneg i ⋯];exact q) (.inl (PyProof.noPylong_of_log2 ?_));have h64:j.natAbs.log2<64:=(Nat.log2_lt ⋯).mpr ⋯;omega
theorem fk:∀{ys:L9} {us:L4},bc (ys.map V.str) us->StrsAre us ys
 | [],_,.nil=>.nil
 |y::ys,_,.cons r t=>by
  obtain⟨tk,rfl⟩:=r;exact .cons y tk (fk t)
def yi(K:LW):V->List V->Hp->VK->Prop:=λx xs H Q=>∃z p ys,x=.str z/\xs=[.ref p]/\(aR K H p (ys.map V.str)\/gG K H p (ys.map V.str))/\(ys.map (·.length)).sum+ys.length*z.length<=16777216/\Q (.str (Txt.join z ys)) H
theorem Ec:Hh X "str.join" (yi X.K):=by
 intro pins s σ H x xs v us Q I rx rv h;obtain⟨z,p,ys,rfl,rfl,hs,d,q⟩:=h;obtain⟨t,rfl⟩:=rx;obtain⟨u,rfl,e⟩:=rv.one;cases e;rcases hs with hs | hs
 ·obtain⟨c,r,b,_⟩:=I.list hs
  exact join_list b.isList (by simpa using fk r) d λa k=>⟨.str _,H,I.tok k,⟨a,rfl⟩,q⟩
 ·obtain⟨c,r,b,_⟩:=I.tuple hs
  exact join_tuple b (by simpa using fk r) d λa k=>⟨.str _,H,I.tok k,⟨a,rfl⟩,q⟩
def Gp(x:Str):It:=⟨λi _=>i<x.cps.size,λi H v H'=>H'=H/\∃c,x.cps[i]?=some c/\v=.str ⟨#[c]⟩,λi _=>x.cps.size<=i⟩
theorem Cv{K:LW}(x:Str)(t:Tok)(it:Addr):wM P w K tg (Gp x) [it] it (λi h=>h.IsStrIter it (strIterType x) x t i) where
 mem:=by simp
 obj:=λi h g b l=>by
  have e:b=it:=by simpa using l
  subst e;obtain⟨o,e,c,d⟩:=g;exact⟨o,e,λv z=>by rw[d]at z;cases z⟩
 keep:=λi h m g k=>by
  obtain⟨o,e,c,d⟩:=g;exact⟨o,k it (by simp) o e,c,d⟩
 item:=by
  intro X M G O L i j s σ H E I hf g hg;subst M G O;obtain⟨D,C,U,B,y,r⟩:=hf it (by simp);have J:i<x.cps.size:=hg;have p:x.cps[i]?=some x.cps[i]:=Array.getElem?_eq_getElem J;have fin:∀m,m.IsStrIter it (strIterType x) x t (i+1)->Heap.SameBut it s.heap m->∃u,(some (Value.str ⟨#[x.cps[i]]⟩ s.toks))=some u /\
    wpAny (model X.prog X.w) X.A (letOwnedTupleGo tg (.ref it) u) (λ_ S=>∃v H',Inv X j σ H' S/\bh v u/\(Gp x).yld i H v H'/\S.heap.IsStrIter it (strIterType x) x t (i+1)/\∀b∈[it],H' b=none) E {s with heap:=m,toks:=s.toks+1}:=λm q T=>by
   have Y:Inv X j σ H {s with heap:=m,toks:=s.toks+1}:=I.turned (λb o l e=>(T.2 b l).trans e) D C B y r;obtain⟨o,e,c,d⟩:=id q;refine⟨_,rfl,yn (s:={s with heap:=m,toks:=s.toks+1}) e c d ?_ ⟨.str ⟨#[x.cps[i]]⟩,H,Y,⟨_,rfl⟩,⟨rfl,_,p,rfl⟩,q,λb l=>(hf b l).1⟩⟩;unfold strIterType
   split<;>decide
  cases n:x.cps.all (· < 128) with
  |true=>
   have a:strIterType x="str_ascii_iterator":=by unfold strIterType;rw[n];rfl
   rw[a]at g fin ⊢;exact wpAny_pyNext_ascii_item g p fin
  |false=>
   have a:strIterType x="str_iterator":=by unfold strIterType;rw[n];rfl
   rw[a]at g fin ⊢;exact wpAny_pyNext_wide_item g p fin
 done:=by
  intro X M G O L i j s σ H E I hf g hg;subst M G O;obtain⟨D,C,U,B,y,r⟩:=hf it (by simp);have J:x.cps.size<=i:=hg;have p:x.cps[i]?=none:=Array.getElem?_eq_none J;cases n:x.cps.all (· < 128) with
  |true=>
   have a:strIterType x="str_ascii_iterator":=by unfold strIterType;rw[n];rfl
   rw[a]at g;exact wpAny_pyNext_ascii_end (I.ok.hd L) g p λm R=>⟨rfl,I.turned (t':=s.toks) (λb o l e=>R b o l e) D C B y r⟩
  |false=>
   have a:strIterType x="str_iterator":=by unfold strIterType;rw[n];rfl
   rw[a]at g;exact wpAny_pyNext_wide_end (I.ok.hd L) g p λm R=>⟨rfl,I.turned (t':=s.toks) (λb o l e=>R b o l e) D C B y r⟩
 self:=λA i s Q E g h=>by
  cases n:x.cps.all (· < 128) with
  |true=>
   have a:strIterType x="str_ascii_iterator":=by unfold strIterType;rw[n];rfl
   rw[a]at g;exact wpAny_pyIter_striter_ascii g h
  |false=>
   have a:strIterType x="str_iterator":=by unfold strIterType;rw[n];rfl
   rw[a]at g;exact wpAny_pyIter_striter_wide g h
def ER(tl:TE):TI:=λσ H R=>tl σ H λv H1=>∃x,v=.str x/\R (Gp x) H1
theorem F3{tl:TE}(hl:PE X l tl):PI X tg l (ER tl):=by
 intro a s σ H R I h;refine bT (hl a s σ H _ I h) λv c ⟨x,H1,d,g,i⟩=>?_;obtain⟨x,rfl,q⟩:=i;obtain⟨t,rfl⟩:=g;refine wpAny_pyIter_strU ?_;refine⟨c.heap.objs.size,[c.heap.objs.size],_,_,H1,rfl,d.kept (t':=c.toks) λb o e=>K2 _ e,Cv x t _,⟨_,K8 _ rfl,rfl,rfl⟩,λb j=>?_,q⟩;have e:b=c.heap.objs.size:=by simpa using j
 subst e;exact d.fpOk (Ln _) (d.hok.fresh (Ln _))
def Hf(K:LW)(a:Addr)(n:Nat):It:=
 ⟨λi H=>∃xs x,aR K H a xs/\i<n/\xs[n-1-i]?=some x,λi H x H'=>H'=H/\∀xs,aR K H a xs->xs[n-1-i]?=some x,λi _=>i=n⟩
theorem Cg{K:LW}(a it:Addr)(n:Nat):wM P w K tg (Hf K a n) [it] it (λi h=>h.IsRevIter it a ((n:Int)-1-(i:Int))) where
 mem:=by simp
 obj:=λi h g b m=>by
  have e:b=it:=by simpa using m
  subst e;obtain⟨o,e,c,d⟩:=g;exact⟨o,e,λv z=>by rw[d]at z;cases z⟩
 keep:=λi h r g k=>g.at λo e=>k it (by simp) o e
 item:=by
  intro X B y C T i j s σ H E I hf g hg;subst B y C;obtain⟨xs,x,R,S,O⟩:=hg;obtain⟨its,Y,p,hz⟩:=I.list R;obtain⟨u,hu,Z⟩:=Y.get O;obtain⟨M,L,f2,J,G,D⟩:=hf it (by simp);have e:(n:Int)-1-(i:Int)=((n-1-i:Nat):Int):=by omega
  have q:=g;rw[e]at q;refine wpAny_pyNext_rev_item q p.isList (x:=u) (by simpa using hu) λr l U=>?_;have e2:((n-1-i:Nat):Int)-1=(n:Int)-1-((i+1:Nat):Int):=by omega
  rw[e2]at l;have I1:Inv X j σ H {s with heap:=r }:=I.turned (t':=s.toks) (λb o m e=>(U.2 b m).trans e) M L J G D;obtain⟨o,e,c,d⟩:=id l;exact⟨u,rfl,yn (s:={s with heap:=r }) e c d nofun ⟨x,H,I1,Z,⟨rfl,λys hy=>by rw[I.list_inj hy R];exact O⟩,l,λb m=>(hf b m).1⟩⟩
 done:=by
  intro X B y C T i j s σ H E I hf g hg;subst B y C;obtain⟨M,L,f2,J,G,D⟩:=hf it (by simp);have S:i=n:=hg;subst S;have e:(i:Int)-1-(i:Int) = -1:=by omega
  rw[e]at g;exact wpAny_pyNext_rev_end (I.ok.hd T) g λr eb=>⟨rfl,I.turned (t':=s.toks) (λb o m e=>eb b o m e) M L J G D⟩
 self:=λ_ _ _ _ _ g h=>wpAny_pyIter_revIter g h
def Fb(K:LW)(ta:TA):TI:=λσ H R=>ta σ H λvs H1=>∃a xs,vs=[.ref a]/\aR K H1 a xs/\R (Hf K a xs.length) H1
theorem Fk{a:Expr}{ta:TA}{p pos:Pos}(hg:Gl X "reversed")(hm:X.mg "reversed"=none)(ha:PA X [a] ta)(hs:autoParam (starEach [a] X.env=[(false,eval a X.env)]) zz0._auto_1):PI X tg (.Call (.Name "reversed" p) [a] [] pos) (Fb X.K ta):=by
 intro d s σ H R I h;refine Call_ (fo I hg hm boot_reversed (PyProof.Rows.callWith_type1 (bT (ha pos d s σ H _ I h) λus c ⟨vs,H1,j,v,w⟩=>?_) hs rfl));obtain⟨l,g,rfl,y,q⟩:=w;obtain⟨u,rfl,r⟩:=v.one;cases r;obtain⟨k,n,x,hz⟩:=j.list y;have i:=n.length;refine call_reversed_list x.isList ?_;have B:k.toArray.size=g.length:=by rw[K9,i]
 rw[B];have C:Inv X d σ H1 {c with heap:=c.heap.push (revObj l ((g.length:Int)-1))}:=j.kept (t':=c.toks) λb o e=>K2 _ e;have m:(c.heap.push (revObj l ((g.length:Int)-1))).IsRevIter c.heap.objs.size l ((g.length:Int)-1-((0:Nat):Int)):=⟨_,K8 _ rfl,rfl,by simp[revObj]⟩;refine wpAny_pyIter_revIter m ?_;refine⟨c.heap.objs.size,[c.heap.objs.size],_,_,H1,rfl,C,Cg l _ g.length,m,λb z=>?_,q⟩;have e:b=c.heap.objs.size:=by simpa using z
 subst e;exact j.fpOk (Ln _) (j.hok.fresh (Ln _))
def FP:V->Option Int->Option Int->Hp->VK->Prop:=λx lo hi H Q=>∃z,x=.str z/\z.length<=sizeLine/\Q (.str (Txt.slice z lo hi)) H
theorem oh:Hv X FP:=by
 intro a s σ H x v vl vu lo hi sl Q I rx hs pl pu h;obtain⟨z,rfl,b,q⟩:=h;obtain⟨t,rfl⟩:=rx;have fin:∀c k,EP X a σ Q (.str (Txt.slice z lo hi) c) {s with toks:=k}:=λc k=>⟨.str _,H,I.tok k,⟨c,rfl⟩,q⟩;refine⟨"str",_,F.slot_str_getitem.lookup,typeIs_str _ _ _,?_⟩;cases pl with
 |none=>
  cases pu with
  |none=>exact wpAny_getItem_str_slice (l:=none) (u:=none) (st:=none) hs rfl (post_val_or_str ⟨Lv (Txt.slice_le z _ _) b,fin⟩)
  |int j uj=>exact wpAny_getItem_str_slice (l:=none) (u:=some (j,uj)) (st:=none) hs rfl (post_val_or_str ⟨Lv (Txt.slice_le z _ _) b,fin⟩)
 |int i ui=>
  cases pu with
  |none=>exact wpAny_getItem_str_slice (l:=some (i,ui)) (u:=none) (st:=none) hs rfl (post_val_or_str ⟨Lv (Txt.slice_le z _ _) b,fin⟩)
  |int j uj=>exact wpAny_getItem_str_slice (l:=some (i,ui)) (u:=some (j,uj)) (st:=none) hs rfl (post_val_or_str ⟨Lv (Txt.slice_le z _ _) b,fin⟩)
def Hk(sep:Str)(ta:TA):TE:=λσ H Q=>ta σ H λvs H1=>∃x,vs=[.str x]/\x.length<=1000/\sep.length<=1000/\Q (.str (Txt.join sep (x.cps.toList.reverse.map λc=>(⟨#[c]⟩:Str)))) H1
theorem wQ{e:Expr}{ta:TA}{sep:Str}{j:Nat}{ap p1 p2 cpos:Pos}(hc:X.calm=true)(hg:Gl X "reversed")(hm:X.mg "reversed"=none)(ha:PA X [e] ta)
  (hfew:autoParam (((backTo cpos (starEach [.Call (.Name "reversed" p1) [e] [] p2] X.env)).all (λx=>!x.1)&&(backToKw cpos (keywordEach [] X.env)).all (λx=>x.1.isSome)
   && decide ([Expr.Call (.Name "reversed" p1) [e] [] p2].length+([]:List Keyword).length+(if([]:List Keyword).isEmpty then 0 else 1)<30))=true) zz0._auto_1)
  (hline:autoParam ((ap.endLine==cpos.line)=true) zz0._auto_1) (hs:autoParam (starEach [e] X.env=[(false,eval e X.env)]) zz0._auto_1) :
  PE X (.Call (.Attribute (.Constant (.str sep) j p0) "join" ap) [.Call (.Name "reversed" p1) [e] [] p2] [] cpos) (Hk sep ta):=by
 intro c s σ H Q I h;refine wpAny_Call_method_late rfl hfew hline rfl (bT (iE (X:=X) c s σ H (λv H1=>v=.str sep/\H1=H) I ⟨rfl,rfl⟩) λv l ⟨x,H1,n,y,D⟩=>?_);obtain⟨rfl,rfl⟩:=D;obtain⟨t0,rfl⟩:=y;refine⟨"str",_,F.plainAttrs_str,F.slot_str_join,F.type_str_join,typeIs_str _ _ _,(λa z=>nomatch z),?_⟩;refine Calls.callWith_builtin rfl (Calls.evalArgs_plain ?_);show wpAny _ _ (spliced ((false,eval (.Call (.Name "reversed" p1) [e] [] p2) X.env)::[])) _ _ l;refine Calls.spliced_cons ?_;refine Call_ (fo n hg hm boot_reversed (PyProof.Rows.callWith_type1 (bT (ha p2 c l σ H1 _ n h) λus d ⟨vs,H2,i,w,B⟩=>?_) hs rfl));obtain⟨x,rfl,C,g,q⟩:=B;obtain⟨u,rfl,r⟩:=w.one;obtain⟨t,rfl⟩:=r;have hsl:sizeLine=16777216:=q0W;refine kK ⋯ (Calls.spliced_nil ?_);have m:Inv X c σ H2 {d with heap:=d.heap.push (xS x t ((x.length:Int)-1)),toks:=d.toks+1+1}:=i.kept λb o e=>K2 _ e;have J:=i.fpOk (b:=d.heap.objs.size) (H':=H2) (Ln _) (i.hok.fresh (Ln _));obtain⟨S,R,f2,O,M,L⟩:=J;refine BQ (m.ok.hd hc) (I:=d.heap.objs.size) (x:=x) (t:=t) ⟨_,K8 _ rfl,rfl,rfl⟩ C g λp t' k keep U Y T=>?_;obtain⟨h',g',d',k',o'⟩:=p;cases U;cases Y;cases T;exact⟨.str _,H2,m.turned (t':=k) (λb o G e=>keep b o G e) S R O M L,⟨t',rfl⟩,q⟩
def wz:V->Value
 | .ty n=>.type n
 | .ref a=>.ref a
 |_=>.none
def j5:V->Bool
 | .ty _=>true
 | .ref _=>true
 |_=>false
theorem sN(r:bh c u)(h:j5 c=true):u=wz c:=by
 cases c with
 |ty n=>exact r
 |ref a=>exact r
 |_=>cases h
def BU(K:LW):List V->Hp->VK->Prop:=λxs H Q=>∃x c t b,xs=[x,c]/\j5 c=true/\jo K H x t/\PySem.W.kitOne K t (wz c)=some b/\Q (.bl b) H
theorem cy:eM X (.builtin "isinstance") (BU X.K):=by
 intro pins s σ H xs us Q I r h;obtain⟨x,c,t,b,rfl,i,ty,e,q⟩:=h;obtain⟨u,v,rfl,g,d⟩:=r.two;rw[sN d i];exact Aj I g ty e λa=>⟨.bl b,H,I.tok a,rfl,q⟩
theorem Bc(K:LW)(n:String):PySem.W.kitOne K (.type n) (.type n)=some true:=by
 unfold PySem.W.kitOne;rw[q07 (beq_self_eq_true _)]
inductive Dt where
 |non | bl (b:Bool) | int (i:Int) | str (x:Str) | lst (ds:List Dt) | tup (ds:List Dt)
mutual
def j9(K:LW)(H:Hp):Dt->V->Prop
 | .non,v=>v=.non
 | .bl b,v=>v=.bl b
 | .int i,v=>v=.int i
 | .str x,v=>v=.str x
 | .lst ds,v=>∃a xs,v=.ref a/\aR K H a xs/\eu K H ds xs
 | .tup ds,v=>∃a xs,v=.ref a/\gG K H a xs/\eu K H ds xs
def eu(K:LW)(H:Hp):List Dt->List V->Prop
 | [],xs=>xs=[]
 |d::ds,xs=>∃x r,xs=x::r/\j9 K H d x/\eu K H ds r
end
mutual
def Dt.dep:Dt->Nat
 | .lst ds=>Dt.deps ds+1
 | .tup ds=>Dt.deps ds+1
 |_=>0
def Dt.deps:List Dt->Nat
 | []=>0
 |d::ds=>max (Dt.dep d) (Dt.deps ds)
end
theorem eu.length{K:LW}:∀{ds:List Dt} {xs:List V},eu K H ds xs->xs.length=ds.length
 | [],_,h=>by unfold eu at h;rw[h];rfl
 |d::ds,xs,h=>by
  unfold eu at h;obtain⟨x,r,rfl,_,h2⟩:=h;simp[eu.length h2]
theorem eu.get{K:LW}:∀{ds:List Dt} {xs:List V} {j:Nat} {x:V},eu K H ds xs->xs[j]?=some x->∃d,ds[j]?=some d/\j9 K H d x
 | [],_,_,_,h,e=>by unfold eu at h;rw[h]at e;simp at e
 |d::ds,xs,j,x,h,e=>by
  unfold eu at h;obtain⟨y,r,rfl,h1,h2⟩:=h;cases j with
  |zero=>simp at e;subst e;exact⟨d,rfl,h1⟩
  |succ j=>
   obtain⟨d',e1,e2⟩:=eu.get (j:=j) h2 (by simpa using e);exact⟨d',by simpa using e1,e2⟩
theorem iL:∀{ds:List Dt} {j:Nat} {d:Dt},ds[j]?=some d->d.dep<=Dt.deps ds
 | [],_,_,e=>by simp at e
 |d'::ds,0,d,e=>by simp at e;subst e;unfold Dt.deps;omega
 |d'::ds,j+1,d,e=>by
  have:=iL (ds:=ds) (j:=j) (by simpa using e);unfold Dt.deps;omega
theorem gC(n:Nat):(List.range n).all (λ_=>true)=true:=by simp
theorem Bl{pins:LX}{σ:St}(I:Inv X pins σ H s):∀(n:Nat) (d:Dt) (A:Ma) {v u:V} {vv uu:Value},d.dep<=n->A.units+n<cLine->j9 X.K H d v->j9 X.K H d u->bh v vv->bh u uu->SeqAt.EqAt A s vv uu true:=by
 intro n
 induction n with
 |zero=>
  intro d A v u vv uu S hA h1 h2 l k;cases d with
  |non=>unfold j9 at h1 h2;subst h1 h2;have:=hU (A:=A) (s:=s) l k rfl rfl;exact this
  |bl b=>unfold j9 at h1 h2;subst h1 h2;have:=hU (A:=A) (s:=s) l k rfl rfl;simpa[wY]using this
  |int i=>unfold j9 at h1 h2;subst h1 h2;have:=hU (A:=A) (s:=s) l k rfl rfl;simpa[wY]using this
  |str x=>unfold j9 at h1 h2;subst h1 h2;have:=hU (A:=A) (s:=s) l k rfl rfl;simpa[wY]using this
  |lst ds=>unfold Dt.dep at S;omega
  |tup ds=>unfold Dt.dep at S;omega
 |succ n ih=>
  intro d A v u vv uu S hA h1 h2 l k;cases d with
  |non=>unfold j9 at h1 h2;subst h1 h2;have:=hU (A:=A) (s:=s) l k rfl rfl;exact this
  |bl b=>unfold j9 at h1 h2;subst h1 h2;have:=hU (A:=A) (s:=s) l k rfl rfl;simpa[wY]using this
  |int i=>unfold j9 at h1 h2;subst h1 h2;have:=hU (A:=A) (s:=s) l k rfl rfl;simpa[wY]using this
  |str x=>unfold j9 at h1 h2;subst h1 h2;have:=hU (A:=A) (s:=s) l k rfl rfl;simpa[wY]using this
  |lst ds=>
   unfold j9 at h1 h2;obtain⟨a,J,rfl,ha,o⟩:=h1;obtain⟨b,D,rfl,hb,m⟩:=h2;cases l;cases k
   by_cases p:a=b
   ·subst p;exact SeqAt.EqAt.same _
   ·unfold Dt.dep at S
    obtain⟨g,O,pa,_⟩:=I.list ha;obtain⟨c,M,pb,_⟩:=I.list hb;have l1:=O.length;have l2:=M.length;have l3:=o.length;have l4:=m.length
    have a0:g.toArray.size=c.toArray.size:=by simp;omega
    have q:=SeqAt.RcAt.lists (A:=A) (s:=s) (e:=λ_=>true) pa.isList pb.isList a0 ⋯ λj g1 g2=>by
     have C:j<g.length:=by simpa using g1
     have B:j<c.length:=by simpa using g2
     have L:J[j]?=some J[j]:=K0 ⋯;have G:D[j]?=some D[j]:=K0 ⋯;obtain⟨d,Z,z⟩:=o.get L;obtain⟨d',Y,y⟩:=m.get G;rw[Z]at Y;cases Y
     obtain⟨w1,U,w⟩:=O.get L;obtain⟨w2,T,r⟩:=M.get G;rw[K0 C]at U;rw[K0 B]at T;cases U;cases T
     have R:=iL Z;simp only[LN];exact ih d A.in1 ⋯ (by show A.units+1+n<cLine;omega) z y w r
    rw[gC]at q;exact SeqAt.EqAt.of_refs p q
  |tup ds=>
   unfold j9 at h1 h2;obtain⟨a,J,rfl,ha,o⟩:=h1;obtain⟨b,D,rfl,hb,m⟩:=h2;cases l;cases k
   by_cases p:a=b
   ·subst p;exact SeqAt.EqAt.same _
   ·unfold Dt.dep at S
    obtain⟨g,O,pa,_⟩:=I.tuple ha;obtain⟨c,M,pb,_⟩:=I.tuple hb;have l1:=O.length;have l2:=M.length;have l3:=o.length;have l4:=m.length
    have q:=SeqAt.RcAt.tuples (A:=A) (s:=s) (e:=λ_=>true) (show s.heap.IsTuple a g.toArray from pa) (show s.heap.IsTuple b c.toArray from pb) ⋯ λj g1 g2=>by
     have C:j<g.length:=by simpa using g1
     have B:j<c.length:=by simpa using g2
     have L:J[j]?=some J[j]:=K0 ⋯;have G:D[j]?=some D[j]:=K0 ⋯;obtain⟨d,Z,z⟩:=o.get L;obtain⟨d',Y,y⟩:=m.get G;rw[Z]at Y;cases Y
     obtain⟨w1,U,w⟩:=O.get L;obtain⟨w2,T,r⟩:=M.get G;rw[K0 C]at U;rw[K0 B]at T;cases U;cases T
     have R:=iL Z;simp only[LN];exact ih d A.in1 ⋯ (by show A.units+1+n<cLine;omega) z y w r
    have e0:((List.range (min g.toArray.size c.toArray.size)).all (λ_=>true)&&g.toArray.size==c.toArray.size)=true:=by
     rw[gC,Bool.true_and];simp;omega
    rw[e0]at q;exact SeqAt.EqAt.of_refs p q
def AU(K:LW)(neg:Bool):R2:=λx y H Q=>
 (∃ds,Dt.deps ds<=40/\((j9 K H (.lst ds) x/\j9 K H (.lst ds) y)\/(j9 K H (.tup ds) x/\j9 K H (.tup ds) y))/\Q (.bl (!neg)) H) \/
 (∃a b xs ys,x=.ref a/\y=.ref b/\aR K H a xs/\aR K H b ys/\xs.length≠ys.length/\Q (.bl neg) H)
theorem CD(hu:X.A.units+64<cLine):bD X (compareOp .Eq) (AU X.K false):=by
 intro r s σ H x y v u Q I rx ry h;rcases h with⟨ds,hd,h,q⟩ | ⟨a,b,o,n,rfl,rfl,C,B,hne,q⟩
 ·have fin:EP X r σ Q (.bool true) s:=⟨.bl true,H,I,rfl,q⟩
  have p:∀{o n:List V} {g c:L4},eu X.K H ds o->eu X.K H ds n->bc o g->bc n c->∀j (h1:j<g.toArray.size) (h2:j<c.toArray.size),SeqAt.EqAt X.A.in1 s g.toArray[j] c.toArray[j] true:=fun{o n g c} k i m l j g1 g2=>by
   have O:=m.length;have M:=l.length;have Z:=k.length;have Y:=i.length
   have S:j<g.length:=by simpa using g1
   have R:j<c.length:=by simpa using g2
   have U:o[j]?=some o[j]:=K0 ⋯;have T:n[j]?=some n[j]:=K0 ⋯;obtain⟨d,e1,L⟩:=k.get U;obtain⟨d',e2,J⟩:=i.get T;rw[e1]at e2;cases e2
   obtain⟨w1,f1,G⟩:=m.get U;obtain⟨w2,f2,D⟩:=l.get T;rw[K0 S]at f1;rw[K0 R]at f2;cases f1;cases f2
   have hdep:=iL e1;simp only[LN];exact Bl I 40 d X.A.in1 ⋯ (by show X.A.units+1+40<cLine;omega) L J G D
  rcases h with⟨h1,h2⟩ | ⟨h1,h2⟩
  ·unfold j9 at h1 h2
   obtain⟨a,o,rfl,C,k⟩:=h1;obtain⟨b,n,rfl,B,i⟩:=h2;cases rx;cases ry
   obtain⟨g,m,z,_⟩:=I.list C;obtain⟨c,l,w,_⟩:=I.list B;have O:=m.length;have M:=l.length;have Z:=k.length;have Y:=i.length
   have q:=SeqAt.RcAt.lists (A:=X.A) (s:=s) (e:=λ_=>true) z.isList w.isList (by simp;omega) ⋯ (p k i m l);rw[gC]at q;exact q _ _ _ _ fin
  ·unfold j9 at h1 h2
   obtain⟨a,o,rfl,C,k⟩:=h1;obtain⟨b,n,rfl,B,i⟩:=h2;cases rx;cases ry
   obtain⟨g,m,z,_⟩:=I.tuple C;obtain⟨c,l,w,_⟩:=I.tuple B;have O:=m.length;have M:=l.length;have Z:=k.length;have Y:=i.length
   have q:=SeqAt.RcAt.tuples (A:=X.A) (s:=s) (e:=λ_=>true) (show s.heap.IsTuple a g.toArray from z) (show s.heap.IsTuple b c.toArray from w) ⋯ (p k i m l);have e0:((List.range (min g.toArray.size c.toArray.size)).all (λ_=>true)&&g.toArray.size==c.toArray.size)=true:=by
    rw[gC,Bool.true_and];simp;omega
   rw[e0]at q;exact q _ _ _ _ fin
 ·cases rx;cases ry
  obtain⟨g,m,z,_⟩:=I.list C;obtain⟨c,l,w,_⟩:=I.list B;have O:=m.length;have M:=l.length
  exact SeqAt.RcAt.lists_lengths z.isList w.isList (by simp;omega) ⋯ _ _ _ _ ⟨.bl false,H,I,rfl,q⟩
theorem FX(hu:X.A.units+64<cLine):bD X (compareOp .NotEq) (AU X.K true):=by
 intro r s σ H x y v u Q I rx ry h;rcases h with⟨ds,hd,h,q⟩ | ⟨a,b,o,n,rfl,rfl,C,B,hne,q⟩
 ·have fin:EP X r σ Q (.bool false) s:=⟨.bl false,H,I,rfl,q⟩
  have p:∀{o n:List V} {g c:L4},eu X.K H ds o->eu X.K H ds n->bc o g->bc n c->∀j (h1:j<g.toArray.size) (h2:j<c.toArray.size),SeqAt.EqAt X.A.in1 s g.toArray[j] c.toArray[j] true:=fun{o n g c} k i m l j g1 g2=>by
   have O:=m.length;have M:=l.length;have Z:=k.length;have Y:=i.length
   have S:j<g.length:=by simpa using g1
   have R:j<c.length:=by simpa using g2
   have U:o[j]?=some o[j]:=K0 ⋯;have T:n[j]?=some n[j]:=K0 ⋯;obtain⟨d,e1,L⟩:=k.get U;obtain⟨d',e2,J⟩:=i.get T;rw[e1]at e2;cases e2
   obtain⟨w1,f1,G⟩:=m.get U;obtain⟨w2,f2,D⟩:=l.get T;rw[K0 S]at f1;rw[K0 R]at f2;cases f1;cases f2
   have hdep:=iL e1;simp only[LN];exact Bl I 40 d X.A.in1 ⋯ (by show X.A.units+1+40<cLine;omega) L J G D
  rcases h with⟨h1,h2⟩ | ⟨h1,h2⟩
  ·unfold j9 at h1 h2
   obtain⟨a,o,rfl,C,k⟩:=h1;obtain⟨b,n,rfl,B,i⟩:=h2;cases rx;cases ry
   obtain⟨g,m,z,_⟩:=I.list C;obtain⟨c,l,w,_⟩:=I.list B;have O:=m.length;have M:=l.length;have Z:=k.length;have Y:=i.length
   have q:=SeqAt.RcNeAt.lists (A:=X.A) (s:=s) (e:=λ_=>true) z.isList w.isList (by simp;omega) ⋯ (p k i m l);rw[gC]at q;exact q _ _ _ _ fin
  ·unfold j9 at h1 h2
   obtain⟨a,o,rfl,C,k⟩:=h1;obtain⟨b,n,rfl,B,i⟩:=h2;cases rx;cases ry
   obtain⟨g,m,z,_⟩:=I.tuple C;obtain⟨c,l,w,_⟩:=I.tuple B;have O:=m.length;have M:=l.length;have Z:=k.length;have Y:=i.length
   have q:=SeqAt.RcNeAt.tuples (A:=X.A) (s:=s) (e:=λ_=>true) (show s.heap.IsTuple a g.toArray from z) (show s.heap.IsTuple b c.toArray from w) ⋯ (p k i m l);have e0:((List.range (min g.toArray.size c.toArray.size)).all (λ_=>true)&&g.toArray.size==c.toArray.size)=true:=by
    rw[gC,Bool.true_and];simp;omega
   rw[e0]at q;exact q _ _ _ _ fin
 ·cases rx;cases ry
  obtain⟨g,m,z,_⟩:=I.list C;obtain⟨c,l,w,_⟩:=I.list B;have O:=m.length;have M:=l.length
  exact SeqAt.RcNeAt.lists_lengths z.isList w.isList (by simp;omega) ⋯ _ _ _ _ ⟨.bl true,H,I,rfl,q⟩
theorem DN{K:LW}{ys:L9}:eu K H (ys.map Dt.str) (ys.map V.str):=by
 induction ys with
 |nil=>unfold eu;rfl
 |cons y ys ih=>
  show eu K H (Dt.str y::ys.map Dt.str) (V.str y::ys.map V.str);unfold eu;exact⟨_,_,rfl,by unfold j9;rfl,ih⟩
theorem rn(ys:L9):Dt.deps (ys.map Dt.str)=0:=by
 induction ys with
 |nil=>rfl
 |cons y ys ih=>show max (Dt.dep (.str y)) (Dt.deps (ys.map Dt.str))=0;rw[ih];rfl
end
end L2
namespace aJ
abbrev HX:=List Nat
abbrev aJ:=List HX
def rect(p:aJ)(r c:Nat):Prop:=p.length=r/\∀x∈p,x.length=c
def Az(p:aJ)(i j:Nat):Nat:=(p.getD i []).getD j 0
def mirror(p:aJ):aJ:=p.map List.reverse
def col(p:aJ)(i:Nat):HX:=p.reverse.map λx=>x.getD i 0
def aZ(p:aJ):aJ:=(List.range (p.headD []).length).map (col p)
def aQ:Nat->aJ->aJ
 |0,p=>p
 |n+1,p=>aQ n (aZ p)
def turned(p:aJ)(t:Nat):aJ:=aQ (t%4) (if 4<=t then mirror p else p)
theorem BY{i:Nat}(h:rect p r c)(hi:i<r):(p.getD i []).length=c:=by
 have a:i<p.length:=by rw[h.1];exact hi
 rw[q0A,K0 a];exact h.2 _ (K_ a)
theorem bp(h:rect p r c)(hr:0<r):(p.headD []).length=c:=by
 have:=BY h hr;cases p with
 |nil=>have:=h.1;simp at this;omega
 |cons x p=>simpa using this
theorem b9(h:rect p r c):rect (mirror p) r c:=by
 refine⟨by simp[mirror,h.1],λx b=>?_⟩;obtain⟨y,a,rfl⟩:=LK.mp b;rw[Lh];exact h.2 y a
theorem bu(h:rect p r c)(hr:0<r):rect (aZ p) c r:=by
 refine⟨by unfold aZ;rw[K3,q0J,bp h hr],λx a=>?_⟩;obtain⟨i,_,rfl⟩:=LK.mp a;simp[col,h.1]
theorem i_{i j:Nat}(h:rect p r c)(hi:i<r)(hj:j<c):Az (mirror p) i j=Az p i (c-1-j):=by
 have a:i<p.length:=by rw[h.1];exact hi
 have b:(p[i]).length=c:=h.2 _ (K_ a);unfold Az mirror;rw[q0A (l:=List.map _ _),K5,K0 a,q0A (l:=p),K0 a];simp only[Option.map_some,q0L];rw[q0A,List.getElem?_reverse (by rw[b];exact hj),b,q0A]
theorem cG{i j:Nat}(h:rect p r c)(hr:0<r)(hi:i<c)(hj:j<r):Az (aZ p) i j=Az p (r-1-j) i:=by
 unfold Az aZ;rw[bp h hr,q0A (l:=List.map _ _),K5,List.getElem?_range hi];simp only[Option.map_some,q0L];unfold col;rw[q0A,K5,List.getElem?_reverse (by rw[h.1];exact hj),h.1];have a:r-1-j<p.length:=by rw[h.1];omega
 rw[K0 a,q0A (l:=p),K0 a]
 rfl
theorem ki(hp:rect p r c)(hq:rect q r c)(h:∀i j,i<r->j<c->Az p i j=Az q i j):p=q:=by
 refine List.ext_getElem (by rw[hp.1,hq.1]) λi h1 h2=>?_;have a:=hp.2 _ (K_ h1);have d:=hq.2 _ (K_ h2);refine List.ext_getElem (by rw[a,d]) λj b g=>?_;have e:=h i j (by rw[<- hp.1];exact h1) (by rw[<- a];exact b);unfold Az at e
 simpa[q0A,K0,h1,h2,b,g]using e
theorem D'(p:aJ):mirror (mirror p)=p:=by simp[mirror,Le,Function.comp_def]
theorem CA(h:rect p r c)(hr:0<r)(hc:0<c):aZ (aZ (aZ (aZ p)))=p:=by
 have h1:=bu h hr;have h2:=bu h1 hc;have b:=bu h2 hr;have e:=bu b hc;refine ki e h λi j a d=>?_;rw[cG b hc a d,cG h2 hr ⋯ a,cG h1 hc ⋯ ⋯,cG h hr ⋯ ⋯]
 congr 1<;>omega
theorem pq(h:rect p r c)(hr:0<r)(hc:0<c):mirror (aZ p)=aZ (aZ (aZ (mirror p))):=by
 have m:=b9 h;have h1:=bu m hr;have h2:=bu h1 hc;have d:=bu h2 hr;have q:=bu h hr;refine ki (b9 q) d λi j a b=>?_;rw[i_ q a b,cG h hr a ⋯,cG h2 hr a b,cG h1 hc ⋯ a,cG m hr ⋯ ⋯,i_ h ⋯ ⋯]
 congr 1<;>omega
theorem dm:∀(n:Nat) {p:aJ} {r c:Nat},rect p r c->0<r->0<c->rect (aQ n p) (if n%2=0 then r else c) (if n%2=0 then c else r)
 |0,_,_,_,h,_,_=>h
 |n+1,p,r,c,h,hr,hc=>by
  have:=dm n (bu h hr) hc hr;show rect (aQ n (aZ p)) _ _
  by_cases e:n%2=0
  ·rw[q07 e,q07 e]at this
   rw[q06 ⋯,q06 ⋯];exact this
  ·rw[q06 e,q06 e]at this
   rw[q07 ⋯,q07 ⋯];exact this
theorem cS(h:rect p r c)(hr:0<r)(hc:0<c)(t:Nat):rect (turned p t) (if t%2=0 then r else c) (if t%2=0 then c else r):=by
 unfold turned;have e:t%4%2=t%2:=by omega
 rw[<- e]
 split
 ·exact dm _ (b9 h) hr hc
 ·exact dm _ h hr hc
theorem cJ(a b:Nat)(p:aJ):aQ a (aQ b p)=aQ (b+a) p:=by
 induction b generalizing p with
 |zero=>rw[Nat.zero_add];rfl
 |succ b ih=>show aQ a (aQ b (aZ p))=_;rw[ih,Nat.add_right_comm];rfl
theorem eS(h:rect p r c)(hr:0<r)(hc:0<c)(n:Nat):aQ n p=aQ (n%4) p:=by
 induction n using Nat.strongRecOn generalizing p r c with
 |ind n ih=>
  by_cases a:n<4
  ·rw[Nat.mod_eq_of_lt a]
  ·obtain⟨m,rfl⟩:∃m,n=m+4:=⟨n-4,⋯⟩
   have e:aQ (m+4) p=aQ m (aZ (aZ (aZ (aZ p)))):=rfl;rw[e,CA h hr hc,ih m ⋯ h hr hc]
   congr 1
   omega
theorem ii(h:rect p r c)(hr:0<r)(hc:0<c):∀n,mirror (aQ n p)=aQ (3*n) (mirror p):=by
 intro n
 induction n generalizing p r c with
 |zero=>rfl
 |succ n ih=>
  show mirror (aQ n (aZ p))=_;rw[ih (bu h hr) hc hr,pq h hr hc];have e:aZ (aZ (aZ (mirror p)))=aQ 3 (mirror p):=rfl;rw[e,cJ]
  congr 1
  omega
def after(t u:Nat):Nat:=if u<4 then t/4*4+(t+u)%4 else(1-t/4)*4+(u+8-t)%4
def dM(t:Nat):Nat:=if t<4 then(4-t)%4 else t
theorem bF(h:rect p r c)(hr:0<r)(hc:0<c){t u:Nat}(ht:t<8)(hu:u<8):turned (turned p t) u=turned p (after t u):=by
 have m:=b9 h;unfold turned after
 by_cases h1:4<=t<;>by_cases h2:4<=u
 ·rw[q07 h1,q07 h2,q06 ⋯,q06 ⋯]
  rw[ii m hr hc,D',cJ,eS h hr hc]
  congr 1;omega
 ·rw[q07 h1,q06 h2,q07 ⋯,q07 ⋯]
  rw[cJ,eS m hr hc]
  congr 1;omega
 ·rw[q06 h1,q07 h2,q06 ⋯,q07 ⋯]
  rw[ii h hr hc,cJ,eS m hr hc]
  congr 1;omega
 ·rw[q06 h1,q06 h2,q07 ⋯,q06 ⋯]
  rw[cJ,eS h hr hc]
  congr 1;omega
theorem mw(p:aJ):turned p 0=p:=rfl
theorem gs{t u:Nat}(ht:t<8)(hu:u<8):after t u<8:=by unfold after;split<;>omega
theorem kO{t:Nat}(ht:t<8):dM t<8:=by unfold dM;split<;>omega
theorem wH{t:Nat}(ht:t<8):after t (dM t)=0:=by
 unfold after dM
 by_cases h:t<4
 ·rw[q07 h,q07 ⋯];omega
 ·rw[q06 h,q06 ⋯];omega
theorem wq{t:Nat}(ht:t<8):after (dM t) t=0:=by
 unfold after dM
 by_cases h:t<4
 ·rw[q07 h,q07 ⋯];omega
 ·rw[q06 h,q06 ⋯];omega
theorem md(h:rect p r c)(hr:0<r)(hc:0<c){t:Nat}(ht:t<8):turned (turned p t) (dM t)=p:=by
 rw[bF h hr hc ht (kO ht),wH ht];rfl
end aJ
namespace QL
open PySem L2 aJ
def tx(r:LY):Str:=⟨r.toArray⟩
def aw(p:aJ):List V:=p.map λr=>V.str (tx r)
theorem aC(r:LY):(tx r).length=r.length:=by show r.toArray.size=r.length;simp
theorem dg(r:LY):(tx r).cps.toList=r:=by show r.toArray.toList=r;simp
theorem ax(p:aJ):(aw p).length=p.length:=by unfold aw;simp
theorem jS(p:aJ):aw p=(p.map tx).map V.str:=by unfold aw;rw[Le];rfl
theorem cw{p:aJ}{i:Nat}(h:i<p.length):(aw p)[i]?=some (V.str (tx p[i])):=by unfold aw;rw[K5,K0 h];rfl
theorem dE(p:aJ)(r:LY):aw (p++[r])=aw p++[V.str (tx r)]:=by unfold aw;simp
theorem A3:∀(ys:List (List Nat)),Txt.join (Str.ofString "") (ys.map tx)=tx ys.flatten
 | []=>rfl
 |y::ys=>by
  have key:∀(zs:List (List Nat)) (a:LY),(zs.map tx).foldl (λacc (p:Str)=>acc++(Str.ofString "").cps++p.cps) a.toArray=(a++zs.flatten).toArray:=by
   intro zs
   induction zs with
   |nil=>intro a;simp
   |cons z zs ih=>
    intro a;rw[Lu,List.foldl_cons];have e:a.toArray++(Str.ofString "").cps++(tx z).cps=(a++z).toArray:=by
     have b:(Str.ofString "").cps=#[]:=rfl;rw[b];show a.toArray ++ #[]++z.toArray=_;simp
    rw[e,ih];simp
  show(⟨(ys.map tx).foldl (λacc (p:Str)=>acc++(Str.ofString "").cps++p.cps) (tx y).cps⟩:Str)=_;show(⟨(ys.map tx).foldl (λacc (p:Str)=>acc++(Str.ofString "").cps++p.cps) y.toArray⟩:Str)=_;rw[key]
  rfl
theorem i'(r:LY):Txt.join (Str.ofString "") (r.map λc=>(⟨#[c]⟩:Str))=tx r:=by
 have e:(r.map λc=>(⟨#[c]⟩:Str))=(r.map λc=>[c]).map tx:=by rw[Le];rfl
 rw[e,A3]
 congr 1
 clear e
 induction r with
 |nil=>rfl
 |cons c r ih=>simp[ih]
def eC(p:aJ):Prop:=p.length<=64/\∀r∈p,r.length<=64
theorem eC.of(h:rect p r c)(hr:r<=64)(hc:c<=64):eC p:=⟨by rw[h.1];exact hr,λx hx=>by rw[h.2 x hx];exact hc⟩
theorem bj{n:Nat}(h:n<=1000000):n<sizeLine:=by have:=q0W;omega
theorem av{n:Nat}(h:n<=1000000):n<=sizeLine:=by have:=q0W;omega
theorem ai{H:Hp}(h:H l=none):aA H (aG H l o):=λb u e=>by rw[aq (az e h)];exact e
theorem cO{H0:Hp}(s:aA H0 H)(h:H0 l=none):aA H0 (aG H l o):=λb u e=>by rw[aq (az e h)];exact s b u e
theorem uH{i:Nat}(h:rect p r c)(hi:i<r):∃hl:i<p.length,(p[i]).length=c:=⟨by rw[h.1];exact hi,h.2 _ (K_ _)⟩
def gx(H:Hp)(p:aJ)(Q:VK):Prop:=∀(l:Addr) (H':Hp),H l=none->H' l=some (.lst (aw p))->aA H H'->Q (.ref l) H'
theorem EZ{α:Type}{xs:List α}{i:Int}(h0:0<=i)(h1:i<xs.length):∃v,v∈xs/\pJ xs i=some v:=by
 have hb:i.toNat<xs.length:=by omega
 obtain⟨j,a⟩:∃j:Nat,i=(j:Int):=⟨i.toNat,⋯⟩;subst a;exact⟨xs[j]'⋯,K_ _,bV (K0 ⋯)⟩
theorem sW(K:LW):PySem.W.kitOne K (.type "int") (.type "bool")=some false:=by kernel_rfl
end QL
namespace L2
open PySem PySem.Spec PyProof.Rows
section
variable {X:Cx}
theorem qE:eM X (.builtin "len") (λxs H Q=>∃p ys,xs=[.ref p]/\aR X.K H p ys/\Q (.int ys.length) H):=λpins s σ H xs us Q I r ⟨p,ys,e,h,q⟩=>sr pins s σ H xs us Q I r ⟨p,ys,e,.inl h,q⟩
theorem Bo{K:LW}{g:TG}{ti:TT}{te:TE}{σ:St}{H:Hp}{Q:List V->Hp->Prop}{xs:List V}(Pv:Nat->List V->St->Hp->Prop)(h0:Pv 0 [] σ H)(hz:∀i acc σ H,Pv i acc σ H->acc.length<sizeLine)(hi:∀i acc σ H,Pv i acc σ H->i<=xs.length)
  (hl:∀i acc σ H,Pv i acc σ H->aR K H a xs)
  (hs:∀i x acc σ H,xs.reverse[i]?=some x->Pv i acc σ H->g x σ H λσ2 H3=>ti σ2 H3 λb H4=>if b=true then te σ2 H4 λv H5=>Pv (i+1) (acc++[v]) σ2 H5 else Pv (i+1) acc σ2 H4)
  (he:∀acc σ H,Pv xs.length acc σ H->Q acc H):gl (Hf K a xs.length) g ti te σ H Q:=by
 have c:∀{i:Nat} {x:V},i<xs.length->xs[xs.length-1-i]?=some x->xs.reverse[i]?=some x:=fun{i x} hi e=>by rw[List.getElem?_reverse hi];exact e
 exact km (J:=Hf K a xs.length) (g:=g) (ti:=ti) (te:=te) (Q:=Q) (n:=xs.length) Pv h0 hz hi (λacc σ H w=>rfl)
  (λi acc σ H hlt w=>⟨xs,xs[xs.length-1-i]'⋯,hl _ _ _ _ w,hlt,K0 ⋯⟩) (λi x acc σ H H2 hlt w y=>by obtain⟨rfl,d⟩:=y;exact hs i x acc σ H2 (c hlt (d xs (hl _ _ _ _ w))) w) he
theorem C_(i j:Int):(AF (.int i) (.int j)=true)=True:=eq_true rfl
theorem Gx{ta:TE}(ha:PE X a ta)(he:∀whole,isTrue a X.env whole=(do let v <- whole;standAt a.pos;holding [v] (truthy v))):PT X a (qL ta):=by
 intro b s σ H Q I h;rw[he];refine q04 (bT (ha b s σ H _ I h) λv s1 ⟨x,H1,d,c,k,e,q⟩=>?_);subst e;cases c;exact q04 (wpAny_standAt (q0Y (wpAny_truthy_bool ⟨H1,d,q⟩)))
def Ci(J:It)(g:TG)(tb:TS)(D:fW)(σ:St)(H:Hp):Prop:=∃W:Nat->Nat->St->Hp->Prop,(∃m,W 0 m σ H)/\∀i m σ H,W i m σ H ->
 (J.stop i H/\D.nx σ H)\/(J.go i H/\∃N:St->Hp->Prop,(∀σ' H',N σ' H'->∃m',m'<m/\W (i+1) m' σ' H')/\∀x H',J.yld i H x H'->g x σ H' λσ2 H2=>tb {D with nx:=N,ct:=N,bk:=D.nx} σ2 H2)
def AS(wi:TI)(g:TG)(tb:TS):TS:=λD σ H=>wi σ H λJ H1=>Ci J g tb D σ H1
theorem bd{tg iter:Expr}{body:List Stmt}{wi:TI}{pos:Pos}(hp:PassesOwn (model X.prog X.w) X.A X.env X.xe)(hc:X.calm=true)(hi:PI X tg iter wi)(hg:PG X tg g)(hb:ux X body tb)
  (hs:autoParam (∀x,foldedSetIterable iter X.env x=pure x) zz4._auto_1):PS X (.For tg iter body [] pos) (AS wi g tb):=E2 hp hc hi hg hb hs
section
variable {K:LW}{g:TG}{tb:TS}{D:fW}{σ:St}{H:Hp}
theorem bL{xs:List V}(Pv:Nat->St->Hp->Prop)(h0:Pv 0 σ H)(hl:∀i σ H,i<=xs.length->Pv i σ H->aR K H a xs)
  (hs:∀i x σ H,xs[i]?=some x->Pv i σ H->g x σ H λσ2 H2=>tb {D with nx:=Pv (i+1),ct:=Pv (i+1),bk:=D.nx} σ2 H2) (hd:∀σ H,Pv xs.length σ H->D.nx σ H):Ci (zT K a) g tb D σ H:=Cj Pv h0 hl hs hd
theorem bN{lo:Int}{n:Nat}(Pv:Nat->St->Hp->Prop)(h0:Pv 0 σ H)
  (hs:∀i σ H,i<n->Pv i σ H->g (.int (lo+i)) σ H λσ2 H2=>tb {D with nx:=Pv (i+1),ct:=Pv (i+1),bk:=D.nx} σ2 H2) (hd:∀σ H,Pv n σ H->D.nx σ H):Ci (Ao lo n) g tb D σ H:=y3 Pv h0 hs hd
end
end
theorem cn:bootBuiltins "len"=some (.builtin "len"):=by decide +kernel
theorem fF:bootBuiltins "list"=some (.type "list"):=by decide +kernel
theorem By:bootBuiltins "int"=some (.type "int"):=by decide +kernel
theorem DU:bootBuiltins "bool"=some (.type "bool"):=by decide +kernel
theorem bR:bootBuiltins "isinstance"=some (.builtin "isinstance"):=by decide +kernel
theorem ET:bootBuiltins "all"=some (.builtin "all"):=by decide +kernel
theorem zX:bootBuiltins "sorted"=some (.builtin "sorted"):=by decide +kernel
end L2
namespace L2
open PySem PySem.Spec PyProof.Rows
section
variable {X:Cx}{a b c d:Expr}{ta tb tc td:TE}{pos:Pos}
def FF(K:LW):List V->Hp->VK->Prop:=λxs H Q=>∃(p:Addr) (bs:List Bool),xs=[.ref p]/\aR K H p (bs.map V.bl)/\Q (.bl (bs.all id)) H
theorem yJ:∀{bs:List Bool} {us:L4} {i:Nat} {u:Value},bc (bs.map V.bl) us->us[i]?=some u->∃k,bs[i]?=some k/\u=.bool k
 | [],_,_,_,.nil,e=>by simp at e
 |k::bs,_,0,u,.cons r _,e=>by simp at e;subst e;exact⟨k,rfl,r⟩
 |k::bs,_,i+1,u,.cons _ t,e=>by
  obtain⟨k',h1,h2⟩:=yJ (i:=i) t (by simpa using e);exact⟨k',by simpa using h1,h2⟩
theorem yN(bs:List Bool):((List.range bs.length).all λi=>(bs[i]?).getD true)=bs.all id:=by
 rw[Bool.eq_iff_iff,LL,LL]
 constructor
 ·intro h x c
  obtain⟨i,b,e⟩:=List.getElem_of_mem c;have q:=h i (List.mem_range.mpr b);rw[K0 b,q0L,e]at q;exact q
 ·intro h i b
  have a:=List.mem_range.mp b;rw[K0 a,q0L];exact h _ (K_ a)
theorem Cq(hc:X.calm=true):eM X (.builtin "all") (FF X.K):=by
 intro pins s σ H xs us Q I r h;obtain⟨p,bs,rfl,x,q⟩:=h;obtain⟨u,rfl,w⟩:=r.one;cases w;obtain⟨a,m,d,_⟩:=I.list x;have g:p<s.heap.objs.size:=by obtain⟨_,e,_⟩:=d.isList;exact Lq e
 have c:a.length=bs.length:=by rw[<- m.length,K3]
 refine call_all_walk (wpAny_pyIter_list d.isList ?_);refine⟨s.heap.objs.size,[s.heap.objs.size,p],[s.heap.objs.size],a.toArray.size,_,_,λi=>(bs[i]?).getD true,rfl,Walks.list (A:=X.A.in1) (I.ok.hd hc) _ p (Lj g) a.toArray,
  ⟨⟨_,K8 _ rfl,rfl,rfl⟩,d.isList.push _⟩,λi v s' Q' E' B j=>?_,λh' n z=>?_⟩
 ·obtain⟨k,e,rfl⟩:=yJ (i:=i) m (by simpa using B)
  dsimp only at j;rw[e,q0L]at j;exact wpAny_truthy_bool j
 ·have e:((List.range a.toArray.size).all λi=>(bs[i]?).getD true)=bs.all id:=by rw[K9,c];exact yN bs
  rw[e];exact⟨.bl _,H,I.kept (t':=n) λb o l=>z b o (λy=>by rw[K4.mp y]at l;exact Lw _ (Lq l)) (K2 _ l),rfl,q⟩
end
end L2
namespace QL
open PySem L2 aJ PySem.Builtin PySem.Builtin.Str
theorem w6(row:LY)(i k:Nat)(h:i+k<=row.length):((List.range k).map λm=>i+m).filterMap (λj=>row[j]?)=(row.drop i).take k:=by
 rw[List.filterMap_map]
 induction k with
 |zero=>simp
 |succ k ih=>
  rw[q0M,List.filterMap_append,ih ⋯,q0E,List.getElem?_drop];have e:i+k<row.length:=by omega
  simp[K0 e]
def Co(n:Nat)(d:Int):Option Int->Int
 |none=>d
 |some i=>max 0 (min (if i<0 then i+(n:Int) else i) (n:Int))
theorem vD(n d:Nat)(v:Option Int):Co n (d:Int) v=((HT.sIx n d v:Nat):Int):=by
 cases v with
 |none=>rfl
 |some v=>
  show max 0 (min (if v<0 then v+(n:Int) else v) (n:Int))=(((if v<0 then(v+(n:Int)).toNat else min v.toNat n:Nat)):Int)
  by_cases a:v<0
  ·rw[q07 a,q07 a,Int.max_def,Int.min_def]
   split<;>split at * <;> omega
  ·rw[q06 a,q06 a,Int.max_def,Int.min_def]
   split<;>split at * <;> omega
theorem xk(lo hi:Option Int)(n:Nat):strSliceIndices lo hi 1 n=sliceRange (Co n ((0:Nat):Int) lo) (Co n (n:Int) hi) 1:=by cases lo<;>cases hi<;>rfl
theorem gE(row:LY)(lo hi:Option Int):Txt.slice (tx row) lo hi=tx ((row.drop (HT.sIx row.length 0 lo)).take (HT.sIx row.length row.length hi-HT.sIx row.length 0 lo)):=by
 have hl:=HT.sIx_le row.length 0 (Lo _) lo;have hh:=HT.sIx_le row.length row.length (Ln _) hi;have key:strSliceIndices lo hi 1 (tx row).length=(List.range (HT.sIx row.length row.length hi-HT.sIx row.length 0 lo)).map λm=>HT.sIx row.length 0 lo+m:=by
  rw[aC,xk,vD,vD];generalize HT.sIx row.length 0 lo=a;generalize HT.sIx row.length row.length hi=b;unfold sliceRange;have en:(if(1:Int)>0 then(if(a:Int)<(b:Int) then((b:Int)-(a:Int)+1-1)/1 else 0) else(if(a:Int)>(b:Int) then((a:Int)-(b:Int)-1-1)/(-1) else 0)).toNat=b-a:=by
   rw[q07 nofun]
   split<;>omega
  show(List.range (if(1:Int)>0 then(if(a:Int)<(b:Int) then((b:Int)-(a:Int)+1-1)/1 else 0) else(if(a:Int)>(b:Int) then((a:Int)-(b:Int)-1-1)/(-1) else 0)).toNat).map (fun(k:Nat)=>((a:Int)+1*(k:Int)).toNat)=_;rw[en];refine q0K λm _=>?_;omega
 unfold Txt.slice;rw[key];generalize HT.sIx row.length 0 lo=a at hl ⊢;generalize HT.sIx row.length row.length hi=b at hh ⊢
 by_cases hab:a+(b-a)<=row.length
 ·have e:(((List.range (b-a)).map λm=>a+m).filterMap λj=>(tx row).cps[j]?)=(row.drop a).take (b-a):=by
   rw[<- w6 row a (b-a) hab]
   congr 1
   funext j
   show row.toArray[j]?=row[j]?;simp
  rw[e]
  split
  ·rename_i hw
   simp at hw;rw[aC]at hw;have ha0:a=0:=by omega
   have hb0:b-a=row.length:=by omega
   rw[ha0,LU];rw[ha0]at hb0;rw[hb0,LB]
  ·rfl
 ·exact q0Q hab ⋯
end QL
namespace L2
open PySem PySem.Spec PyProof.Rows
section
variable {X:Cx}{K:LW}{tg:Expr}
theorem gn(hK:X.K=K):eM X (.builtin "isinstance") (BU K):=hK▸cy
end
end L2
namespace PySem
open Sem (wp)
def TrD(cp:Value->Prop)(h base:Heap)(e:Addr)(cls:Value)(od:Mc)(fl:Value):Prop:=
 ∃oe vs T oT ts,h.get? e=some oe/\oe.cls=cls/\oe.dict=od/\oe.data=.fields vs/\vs[1]?=some (.ref T)/\base.get? T=none/\T≠e/\h.get? T=some oT/\oT.data=.fields ts/\ts[3]?=some fl/\∃cx,vs[2]?=some cx/\cp cx
structure iw(cp:Value->Prop)(base:Heap)(l:List Env)(e:Addr)(cls:Value)(od:Mc)(fl:Value)(h:Heap):Prop where
 st:base.StaysIn h
 new:base.get? e=none
 ff:h.FunFrames base l
 tr:TrD cp h base e cls od fl
theorem iw.there{cp:Value->Prop}{base:Heap}{cls fl:Value}{od:Mc}(x:iw cp base l e cls od fl h):∃oe vs,h.get? e=some oe/\oe.cls=cls/\oe.dict=od/\oe.data=.fields vs:=by
 obtain⟨oe,vs,_,_,_,a,b,c,d,_⟩:=x.tr;exact⟨oe,vs,a,b,c,d⟩
theorem pG(o:Obj)(f:Array Value->Array Value):(Obj.mapFields f o).dict=o.dict:=by unfold Obj.mapFields;split<;>rfl
section
variable {cp:Value->Prop}{M:Model}{A:Ma}{E:LV}{s:LZ}{base:Heap}{env:Env}{outer:List Env}{L e:Addr}{Q:Unit->Shared->Prop}
theorem m9{cls fl:Value}{od:Mc}(x:iw cp base l e cls od fl s.heap)(h:∀h',iw cp base l e cls od .none h'->s.heap.UpToSlots h'->Q () {s with heap:=h' }):wpAny M A (setFlight (.ref e) none) Q E s:=by
 obtain⟨w,vs,T,oT,r,u,z,y,v,h1,k,m,p,g,B,n⟩:=x.tr;have j:3<r.size:=(Array.getElem?_eq_some_iff.mp B).1;have d:∀b,b≠T->(s.heap.update T (Obj.mapFields (·.setIfInBounds 3 Value.none))).get? b=s.heap.get? b:=λb a=>K7 _ _ (Ne.symm a);have i:∀b o,s.heap.get? b=some o->(∀vs,o.data≠.fields vs)->b≠T:=λb o a c q=>by rw[q,p]at a;injection a with a;subst a;exact c r g
 unfold setFlight;refine q04 (wpAny_field u v h1 ?_);rw[q07 (show(Value.ref T != Value.none)=true from by simp)];refine wpAny_setField p g j (h _ ⟨λb o a=>(d b λq=>by rw[q,k]at a;cases a).trans (x.st b o a),x.new,x.ff.of_keeps λb o a c=>⟨o,(d b (i b o a c)).trans a,rfl⟩,?_⟩ λb o a c=>⟨o.slots,(d b (i b o a c)).trans a⟩);exact⟨w,vs,T,_,_,(d e (Ne.symm m)).trans u,z,y,v,h1,k,m,La _ p (Obj.isFreed_of_fields (Obj.data_mapFields g _)),Obj.data_mapFields g _,by simp[j],n⟩
theorem Cb{oe:Obj}{head:Value}{hadNext:Bool}(hfr:A.frames=some (env::outer))(hl:s.heap.FunFrames base (env::outer))(hf:env.frame=some L)
  (he:s.heap.get? e=some oe) (hkb:base.StaysIn s.heap) (hen:base.get? e=none) (hd:oe.data=.fields vs) (hsz:1<vs.size) (hcx:∃cx,vs[2]?=some cx/\cp cx)
  (h:∀h',iw cp base (env::outer) e oe.cls oe.dict (rawInt L) h'->s.heap.UpToSlots h'->Q () {s with heap:=h' }) :
  wpAny M A (do let a <- frameOf env;let pl <- entryPlaceOf L hadNext;let b <- EntryCells.newEntry head a .none (rawInt L) .none pl;setField (.ref e) 1 b) Q E s:=by
 have p:e∉(env::outer).filterMap (·.frame):=λy=>by
  obtain⟨_,o,w,d⟩:=hl.mem y;rw[he]at w;injection w with w;subst w;exact d vs hd
 refine q04 (wpAny_frameOf_fun hfr hl hf λg i=>?_);refine q04 (wpAny_entryPlaceOf λpl l=>?_);unfold EntryCells.newEntry newFields;refine q04 (wpAny_newObj_type ?_ (l.sizeOk5 _ _ _ _ _));have n:g.get? e=some oe:=(i.2.1 e p).trans he;have k:base.StaysIn g:=λb o c=>(i.2.1 b λy=>by rw[(hl.mem y).1]at c;cases c).trans (hkb b o c);generalize v:({cls:=.type "traceback",dict:=none,data:=.fields ([head,.ref L,.none,rawInt L,.none]++(if pl.isEmpty then List.replicate 6 Value.none else pl)).toArray}:Obj)=To;have B:To.data=.fields ([head,.ref L,.none,rawInt L,.none]++(if pl.isEmpty then List.replicate 6 Value.none else pl)).toArray:=by rw[<- v]
 have m:=K2 (h:=g) To n;have u:g.objs.size≠e:=Nat.ne_of_gt (Lq n);have keep:∀b o,b≠e->g.get? b=some o->((g.push To).update e (Obj.mapFields (·.setIfInBounds 1 (Value.ref g.objs.size)))).get? b=some o:=λb o z c=>by
  rw[K7 _ _ (Ne.symm z)];exact K2 _ c
 have j:∀b o,s.heap.get? b=some o->(∀vs,o.data≠.fields vs)->b≠e:=λb o c d q=>by
  rw[q,he]at c
  injection c with c
  subst c;exact d vs hd
 refine wpAny_setField m hd hsz (h _ ?_ ?_)
 ·have r:=Obj.data_mapFields hd (·.setIfInBounds 1 (Value.ref g.objs.size))
  refine⟨λb o c=>keep b o (λq=>by rw[q,hen]at c;cases c) (k b o c),hen,hl.of_keeps λb o c d=>?_,?_⟩
  ·obtain⟨C,x⟩:=i.2.2 b o c
   exact⟨_,keep b _ (j b o c d) x,rfl⟩
  ·refine⟨_,_,g.objs.size,To,_,La _ m (Obj.isFreed_of_fields r),Obj.cls_mapFields _ _,pG _ _,r,by simp[hsz],k.fresh,u,?_,B,?_,?_⟩
   ·rw[K7 _ _ (Ne.symm u)]
    refine K8 _ ?_;rw[<- v];rfl
   ·first | (simp;done) | (rcases l with rfl | ⟨_,_,_,_,_,_,_,rfl⟩<;>simp)
   ·obtain⟨cx,h2,D⟩:=hcx
    exact⟨cx,by rw[Array.getElem?_setIfInBounds_ne nofun];exact h2,D⟩
 ·intro b o c d
  obtain⟨C,x⟩:=i.2.2 b o c;exact⟨C,keep b _ (j b o c d) x⟩
theorem Er{cls:Value}{od:Mc}(hfr:A.frames=some (env::outer))(hf:env.frame=some L)(x:iw cp base (env::outer) e cls od .none s.heap)
  (h:∀h',iw cp base (env::outer) e cls od (rawInt L) h'->s.heap.UpToSlots h'->Q () {s with heap:=h' }):wpAny M A (noteFrame (.ref e) env) Q E s:=by
 obtain⟨oe,vs,T,oT,u,n,w,v,p,h1,j,l,m,i,r,k⟩:=x.tr;subst w v;unfold noteFrame;simp only[hf];refine q04 (wpAny_field n p h1 ?_);rw[q07 (show(Value.ref T != Value.none)=true from by simp)];refine q04 (wpAny_field m i r ?_);rw[q06 (show ¬ ((Value.none==rawInt L)=true) from by simp[rawInt])];refine q04 (wpAny_setField m i (Array.getElem?_eq_some_iff.mp r).1 ?_);have d:∀b,b≠T->(s.heap.update T (Obj.mapFields (·.setIfInBounds 3 Value.none))).get? b=s.heap.get? b:=λb a=>K7 _ _ (Ne.symm a);have g:∀b o,s.heap.get? b=some o->(∀vs,o.data≠.fields vs)->b≠T:=λb o a c q=>by rw[q,m]at a;injection a with a;subst a;exact c u i
 refine Cb hfr (x.ff.of_keeps λb o a c=>⟨o,(d b (g b o a c)).trans a,rfl⟩) hf ((d e (Ne.symm l)).trans n) (λb o a=>(d b λq=>by rw[q,j]at a;cases a).trans (x.st b o a)) x.new p (Array.getElem?_eq_some_iff.mp h1).1 k λh' y up=>h h' y λb o a c=>up b o ((d b (g b o a c)).trans a) c
theorem Fe{oe:Obj}(hfr:A.frames=some (env::outer))(hl:s.heap.FunFrames base (env::outer))(hf:env.frame=some L)(he:s.heap.get? e=some oe)(hkb:base.StaysIn s.heap)(hen:base.get? e=none)(hd:oe.data=.fields vs)(h1:vs[1]?=some .none)(hcx:∃cx,vs[2]?=some cx/\cp cx)
  (h:∀h',iw cp base (env::outer) e oe.cls oe.dict (rawInt L) h'->s.heap.UpToSlots h'->Q () {s with heap:=h' }):wpAny M A (noteFrame (.ref e) env) Q E s:=by
 unfold noteFrame;simp only[hf];refine q04 (wpAny_field he hd h1 ?_);rw[q06 nofun];exact Cb hfr hl hf he hkb hen hd (Array.getElem?_eq_some_iff.mp h1).1 hcx h
theorem iw.drop{cls fl:Value}{od:Mc}(x:iw cp base (env::outer) e cls od fl h):iw cp base outer e cls od fl h:=⟨x.st,x.new,x.ff.2.2,x.tr⟩
theorem Fy{cls:Value}{od:Mc}(hfr:A.frames=some (env::outer))(hf:env.frame=some L)(x:iw cp base (env::outer) e cls od .none s.heap)
  (h:∀h',iw cp base outer e cls od .none h'->s.heap.UpToSlots h'->Q () {s with heap:=h' }):wpAny M A (leaving env (.ref e)) Q E s:=by
 unfold leaving;exact q04 (Er hfr hf x λh1 b d=>m9 b λh2 a c=>h h2 a.drop (d.trans c))
theorem D8{oe:Obj}(hfr:A.frames=some (env::outer))(hl:s.heap.FunFrames base (env::outer))(hf:env.frame=some L)(he:s.heap.get? e=some oe)(hkb:base.StaysIn s.heap)(hen:base.get? e=none)(hd:oe.data=.fields vs)(h1:vs[1]?=some .none)(hcx:∃cx,vs[2]?=some cx/\cp cx)
  (h:∀h',iw cp base outer e oe.cls oe.dict .none h'->s.heap.UpToSlots h'->Q () {s with heap:=h' }):wpAny M A (leaving env (.ref e)) Q E s:=by
 unfold leaving;exact q04 (Fe hfr hl hf he hkb hen hd h1 hcx λh1 b d=>m9 b λh2 a c=>h h2 a.drop (d.trans c))
end
end PySem
namespace L2
open PySem PySem.Spec PyProof.Rows
structure Fly0(P:L8)(w:Mb)(outer:List Env)(H:Hp)(s:LZ)(B:Heap)(H':Hp)(s':LZ):Prop where
 st:B.StaysIn s'.heap
 ff:s'.heap.FunFrames B outer
 un:Un (kU outer) [] H H' s.heap s'.heap
 hok:jh P w H' s'.heap
 cov:∀b o,H' b=some o->∃ob,B.get? b=some ob
 old:∀b o,s.heap.get? b=some o->b∉kU outer->∃o',B.get? b=some o'
 os:s'.os=s.os
 bare:AllBare s'.gens
structure GH(cp:Value->Prop)(P:L8)(w:Mb)(outer:List Env)(H:Hp)(s:LZ)(B:Heap)(H':Hp)(s':LZ)(ea:Addr)(cls:Value)(od:Mc):Prop extends Fly0 P w outer H s B H' s' where
 fl:iw cp B outer ea cls od .none s'.heap
def GM(cp:Value->Prop)(P:L8)(w:Mb):iy:=λouter H s E e s'=>∃ea cls od B H',e=.ref ea/\GH cp P w outer H s B H' s' ea cls od/\H' ea=none/\E cls od H'
abbrev j8(P:L8)(w:Mb):iy:=GM (λv=>v=.none) P w
theorem dy{cp:Value->Prop}{X:Cx}:cT (GM cp P w) X (λ_ _ _=>False):=λ_ _ _ _ _ _ _ h=>by
 obtain⟨_,_,_,_,_,_,_,_,f⟩:=h;exact f.elim
theorem rB{B:Heap}(ok:jh P w H h)(cov:∀b o,H b=some o->∃ob,B.get? b=some ob)(k:B.StaysIn h)(k':B.StaysIn h'):jh P w H h':=λa o e=>
 (ok a o e).stay (λb u hb q=>by
  have hb':∃ob,B.get? b=some ob:=by
   rcases hb with rfl | hb
   ·exact cov _ _ e
   ·exact cov _ _ hb
  obtain⟨ob,c⟩:=hb';have:=k b ob c;rw[q]at this;cases this;exact k' b _ c) (λ_ q=>q) λ_ _ q=>q
theorem bK.there(x:bK P w H h a o):∃ob,h.get? a=some ob:=by
 cases o with
 |lst xs=>obtain⟨_,_,_,_,e⟩:=x;exact⟨_,e⟩
 |tup xs=>obtain⟨_,_,_,ob,e,_⟩:=x;exact⟨_,e⟩
 |dK kvs=>obtain⟨_,_,_,_,o,_,_,e,_⟩:=x;exact⟨_,e⟩
 |dT kvs=>obtain⟨_,_,_,_,o,_,_,e,_⟩:=x;exact⟨_,e⟩
 |set S n=>obtain⟨o,_,_,_,e,_⟩:=x;exact⟨_,e⟩
 |ins C dx fs=>obtain⟨_,_,_,e,_⟩:=x;exact⟨_,e⟩
 |own y=>exact x
 |xd fs=>obtain⟨_,⟨_,_,_,e,_⟩,_⟩:=x;exact⟨_,e⟩
 |rng lo hi=>obtain⟨_,_,_,e⟩:=x;exact⟨_,e⟩
 |frz ob u=>obtain⟨e,_⟩:=x;exact⟨_,e⟩
 |tbl ps=>exact⟨_,show h.get? a=some _ from x⟩
 |met f y=>exact⟨_,show h.get? a=some _ from x⟩
 |ext φ=>obtain⟨_,e,_⟩:=x;exact e
section
variable {P:L8}{w:Mb}{K:LW}{mg:L6}{base:Heap}{N:L9}{qual:Str}{scope:Scope}{f:Addr}{cd:Value}{A:Ma}{outer:List Env}{s:LZ}{H:Hp}{E E1:XK}{CX:iy}
theorem Fly0.up{cp:Value->Prop}{pins:LX}{σ:St}{H1:Hp}{s':LZ}{ea:Addr}{cls:Value}{od:Mc}(I:Inv X pins σ H1 s1)(hex:X.ex=[])(hst:X.stack=X.env::X.outer)(hfr:X.env.frame=some X.env.locals)(hP:X.prog=P)(hw:X.w=w)
  (x:Fly0 P w X.stack H1 s1 B H' s') (fl2:iw cp B X.outer ea cls od .none h') (up:s'.heap.UpToSlots h') :
  GH cp P w X.outer X.H₀ X.s₀ B H' {s' with heap:=h' } ea cls od:=by
 have c:∀b,b∉X.ex:=λb=>by rw[hex];simp
 have k:∀b o,X.s₀.heap.get? b=some o->b∉X.fs->b∉kU X.stack:=λb o e a n=>by
  rw[hst]at n;unfold kU at n;rw[q0U,hfr]at n;rcases Lf.mp n with z | z
  ·exact q0Q (Lq e) (by rw[z];exact Nat.not_lt.mpr I.ok.above)
  ·exact a z
 have j:∀b,b∈X.fs->b∈kU X.stack:=λb a=>by
  rw[hst];unfold kU;rw[q0U,hfr];exact Lg _ a
 have C:∀b o,X.s₀.heap.get? b=some o->b∉X.fs->∃m,B.get? b=some m:=λb o e a=>by
  obtain⟨v,g⟩:=I.base.there b o e (c b);exact x.old b v g (k b o e a)
 have D:∀b∈X.fs,X.H₀ b=none:=I.ok.frf;have l:∀b o,X.s₀.heap.get? b=some o->X.H₀ b=none->b∈X.fs->∃l,h'.get? b=some {o with slots:=l}:=λb o e d a=>by
  obtain⟨sl1,g⟩:=I.base.slot b o e d a (c b);have y:=I.base.free b o e d (c b);obtain⟨sl2,i⟩:=x.un.slot b _ g y (j b a) (by simp);obtain⟨_,o3,J,M⟩:=x.ff.mem (j b a);rw[i]at J;cases J;obtain⟨r,S⟩:=up b _ i M;exact⟨r,S⟩
 refine⟨⟨fl2.st,fl2.ff,⟨λb o e d a _=>?_,λb o e d a _=>l b o e d a,λb o e d _=>?_,λb o e _=>?_,λb G q=>x.un.tups b G (I.base.tups b G q),λb o u q=>x.un.frzs b o u (I.base.frzs b o u q),λb L q=>?_⟩,rB x.hok x.cov x.st fl2.st,x.cov,C,x.os.trans I.os,x.bare⟩,fl2⟩
 ·have g:=I.base.keep b o e d a (c b)
  have y:=I.base.free b o e d (c b);have i:=x.un.keep b o g y (k b o e a) (by simp);obtain⟨m,p⟩:=C b o e a;have:=x.st b m p;rw[i]at this;cases this;exact fl2.st b _ p
 ·obtain⟨v,g⟩:=I.base.there b o e (c b)
  exact x.un.free b v g (I.base.free b o e d (c b)) (by simp)
 ·by_cases a:b∈X.fs
  ·obtain⟨z,R⟩:=l b o e (D b a) a
   exact⟨_,R⟩
  ·obtain⟨m,p⟩:=C b o e a
   exact⟨_,fl2.st b _ p⟩
 ·obtain⟨m1,g⟩:=I.base.tbls b L q
  obtain⟨O,i⟩:=x.un.tbls b _ g;exact⟨m1++O,by rw[i,Array.append_assoc]⟩
theorem ly{cp:Value->Prop}(hE:∀c d H',E1 c d H'->E c d H'):cT (GM cp P w) (im (GM cp P w) P w K mg base N qual scope f cd A outer s H E) E1:=by
 intro pins σ H1 s1 e s' I x;obtain⟨k,g,i,B,H',rfl,a,j,q⟩:=x;refine Fy I.ok.frames rfl a.fl λh' b up=>?_;exact⟨k,g,i,B,H',rfl,Fly0.up I rfl rfl rfl rfl rfl a.toFly0 b up,j,hE _ _ _ q⟩
def BS(X:Cx)(E:XK):Prop:=∀(pins:LX) (σ:St) (H:Hp) (s:LZ) (h':Heap) (e:Addr) (cls:Value) (vs:L4),Inv X pins σ H s->Heap.MadeExcOf s.heap h' e cls vs->E cls none H->X.xe (.ref e) {s with heap:=h' }
theorem vt(hE:∀c d H',E1 c d H'->E c d H'):BS (im (j8 P w) P w K mg base N qual scope f cd A outer s H E) E1:=by
 intro pins σ H1 s1 h1 e cls vs I x q;have l:∀i∈(im (j8 P w) P w K mg base N qual scope f cd A outer s H E).stack,∀b,i.frame=some b->b∈kU (im (j8 P w) P w K mg base N qual scope f cd A outer s H E).stack:=λi B b p=>List.mem_filterMap.mpr ⟨i,B,p⟩;obtain⟨t0,n,ht0,htt⟩:=x.there;have y:∀b,s1.heap.get? b=none->H1 b=none:=λb p=>by
  cases z:H1 b with
  |none=>rfl
  |some o=>
   obtain⟨u,g⟩:=(I.hok b o z).there;rw[p]at g;cases g
 have m:=PySem.W.funFrames_hide I.stack l;have a:Fly0 P w (im (j8 P w) P w K mg base N qual scope f cd A outer s H E).stack H1 s1 (PySem.W.hideAll s1.heap (kU (im (j8 P w) P w K mg base N qual scope f cd A outer s H E).stack)) H1 {s1 with heap:=h1}:=
  ⟨λb o e=>x.keeps b o (PySem.W.of_hideAll _ e),m.of_keeps λb o e _=>⟨o,x.keeps b o e,rfl⟩,Un.kept x.keeps,I.hok.kept x.keeps,λb o z=>by
   obtain⟨u,g⟩:=(I.hok b o z).there;exact⟨u,PySem.W.hideAll_get _ g λk=>by rw[I.stkFree b k]at z;cases z⟩,λb o e k=>⟨o,PySem.W.hideAll_get _ e k⟩,rfl,I.bare⟩
 have j:(PySem.W.hideAll s1.heap (kU (im (j8 P w) P w K mg base N qual scope f cd A outer s H E).stack)).get? e=none:=by
  cases z:(PySem.W.hideAll s1.heap (kU (im (j8 P w) P w K mg base N qual scope f cd A outer s H E).stack)).get? e with
  |none=>rfl
  |some o=>have:=PySem.W.of_hideAll _ z;rw[x.new]at this;cases this
 refine D8 (cp:=λv=>v=.none) (s:={s1 with heap:=h1}) I.ok.frames a.ff rfl n a.st j rfl rfl ⟨_,rfl,rfl⟩ λh' r up=>?_;exact⟨e,cls,none,_,H1,rfl,Fly0.up I rfl rfl rfl rfl rfl a r up,y e x.new,hE _ _ _ q⟩
end
structure sZ(K:LW)(C:Addr)(bmB:L4)(newId:String):Prop where
 exc:PySem.W.excIn K C bmB newId=true
set_option tactic.hygienic true in
theorem sZ.obj{K:LW}{bmB:L4}{newId:String}(c:sZ K C bmB newId)(X:K.In h):∃bm N nm q bs hdct sn sub ab col dd k0 k1 k2 k3 k5 mN,
  h.get? C=some (excClassObj nm q C N bs bm hdct sn sub ab col dd k0 k1 k2 k3 k5 newId)/\h.Ns N mN/\mN "__init__"=none/\OwnTail h bmB bm/\∃dd' cd sl,K.lookup C=some ⟨.type "type",dd',.cls cd,sl⟩/\cd.mro=.ref C::bm:=by
 have q:=c.exc;unfold PySem.W.excIn at q;cases hl:K.lookup C with
 |none=>rw[hl]at q;cases q
 |some ob=>
  rw[hl]at q
  split at q
  ·rename_i dd cd sl e
   cases e
   split at q
   ·rename_i C' bm k0 k1 k2 k3 n k5 hm hs
    simp only[q0O,beq_iff_eq,Bool.not_eq_true']at q;obtain⟨⟨⟨⟨⟨rfl,rfl⟩,hdel⟩,ht⟩,hok⟩,hni⟩:=q;have ho:=X _ _ hl;have hsl:sl=#[k0,k1,k2,k3,some (.builtin n),k5]:=Array.toList_inj.mp hs;subst hsl;obtain⟨nm,bs,mro,ns,qn,hd,sn,sub,ab,col,del⟩:=cd;dsimp only at hm hdel hok hni ho;subst hm hdel;exact⟨bm,ns,nm,qn,bs,hd,sn,sub,ab,col,dd,k0,k1,k2,k3,k5,_,ho,.of_isNs (PySem.W.isNs_of_in X hok),PySem.W.nsMap_none_of_in X hok hni,PySem.W.tail_of_in X ht,dd,_,_,rfl,rfl⟩
   ·cases q
  ·cases q
section
variable {X:Cx}{x:Str}{np cpos pos:Pos}{e₀:Expr}{bx:Md}{t:TA}{C:Addr}{B Bn newId nid initId inN:String}{bm bmN:L4}{E:XK}
def sD(C:Addr)(E:XK)(t:TA):TS:=λ_ σ H=>t σ H λvs H1=>vs.length<=sizeLine/\E (.ref C) none H1
theorem B5(c:sZ X.K C bm newId)(Fn:ExcBaseFacts Bn newId inN bmN)(hBn:bm.contains (.type Bn)=true)(FB:ExcBaseFacts B nid initId bm)(hc:X.calm=true)(hg:Gl X x)(hm:X.mg x=some (.ref C))(hx:BS X E)(ha:PA X (e₀::bx) t)
  (hd:autoParam ((x==("__debug__":Str))=false) zz2._auto_1)
  (he:autoParam (starEach (e₀::bx) X.env=(false,eval e₀ X.env)::starEach bx X.env) zz0._auto_1) (hpl:autoParam ((backTo cpos (starEach bx X.env)).any (·.1)=false) zz0._auto_1) :
  PS X (.Raise (some (.Call (.Name x np) (e₀::bx) [] cpos)) none pos) (sD C E t):=by
 intro a s σ H D I h;obtain⟨j,N,nm,q,bs,hdct,sn,sub,ab,col,dd,k0,k1,k2,k3,k5,mN,o,n,i,T,_⟩:=c.obj I.mod.kin;refine wpAny_Raise_call_subU (C:=C) (nm:=nm) (q:=q) (N:=N) (bs:=bs) (bm:=j) (hdct:=hdct) (sn:=sn) (sub:=sub) (ab:=ab) (col:=col) (dd:=dd) (k0:=k0) (k1:=k1) (k2:=k2) (k3:=k3) (k5:=k5)
  Fn hBn FB (mN:=mN) (T.hasType FB.hasBase) (I.ok.hd hc) (by rw[he];show(false||(backTo cpos (starEach bx X.env)).any (·.1))=false;rw[hpl];rfl) i (g_ I hg hm ⟨rfl,?_⟩ hd)
 rw[he];have b:=ha cpos a s σ H _ I h;rw[he]at b;exact Calls.evalArgs_plain (q0X b (λus k ⟨vs,H1,d,l,z,m⟩=>⟨rfl,by rw[<- l.length];exact z,d.bk _ _ o,n.keeps d.bk,T.keeps d.bk,λp e g=>hx a σ H1 k p e _ _ d g m⟩) λ_ _ y=>y)
end
abbrev TX:=St->Hp->VK->XK->Prop
def PX(CX:iy)(X:Cx)(e:Expr)(t:TX):Prop:=
 ∀(pins:LX) (s:LZ) (σ:St) (H:Hp) (Q:VK) (E:XK) (Ex:LV),Inv X pins σ H s->t σ H Q E->(∀H1 s1 ev s',Inv X pins σ H1 s1->CX X.stack H1 s1 E ev s'->Ex ev s') ->
  wpAny (model X.prog X.w) X.A (eval e X.env) (EP X pins σ Q) Ex s
section
variable {X:Cx}{CX:iy}{k:Nat}{ps:L9}{sp:Sp}{x:Str}{p pos:Pos}{e:Expr}{es:Md}{t:TA}
def wL(sp:Sp)(t:TA):TX:=λσ H Q E=>t σ H λvs H1=>sp vs H1 Q E
theorem FZ(c:dl X.prog X.w X.K X.mg X.base CX k x ps sp)(hr:cI k X.A)(hg:Gl X x)(ha:PA X.nox (e::es) t)(hdb:autoParam ((x==("__debug__":Str))=false) zz2._auto_1)
  (hst:autoParam (starEach (e::es) X.env=(false,eval e X.env)::starEach es X.env) zz0._auto_1) (hpl:autoParam ((backTo pos (starEach es X.env)).any (·.1)=false) zz0._auto_1):PX CX X (.Call (.Name x p) (e::es) [] pos) (wL sp t):=by
 intro a s σ H Q E Ex I h hEx;obtain⟨f,fd,F,n,v,w⟩:=c.ex;refine wpAny_Call_Name_kw (g_ I hg n ?_ hdb);refine PySem.W.callWith_K (h₀:=X.base) I.ok.mod.kin v (q0X (ha pos a s σ H _ (I.wish _) h) (λus g ⟨vs,H1,j,r,q⟩=>⟨j.kIn,?_⟩) λ_ _ f=>f.elim) hst hpl;have i:Inv X a σ H1 g:=j.unwish;have o:(us++[]).length=ps.length:=by rw[Ly,<- r.length];exact F.len _ _ _ _ q
 have d:=w g us i.kIn o;rw[Ly]at d;refine wpAny_call (codeAny_mono (F.run X.A X.stack g H1 ⟨us,[]⟩ us vs Q E hr i.env0 d r q) λm l b=>?_);cases m with
 |error ev=>exact hEx H1 g ev l i b
 |ok fl=>
  cases fl with
  |ret u=>exact i.after b
  |next=>exact False.elim b
  |brk=>exact False.elim b
  |cont=>exact False.elim b
end
theorem Fly0.un2{outer:List Env}(x:Fly0 P w outer H s B H' s')(k6:B.StaysIn h6)(up:s'.heap.UpToSlots h6)(fr0:∀b∈kU outer,H b=none):Un (kU outer) [] H H' s.heap h6:=by
 have d:∀b o,s.heap.get? b=some o->H b=none->b∈kU outer->∃d,h6.get? b=some {o with slots:=d}:=λb o e c a=>by
  obtain⟨sl2,l⟩:=x.un.slot b _ e c a (by simp);obtain⟨_,o3,k,m⟩:=x.ff.mem a;rw[l]at k;cases k;obtain⟨i,p⟩:=up b _ l m;exact⟨i,p⟩
 refine⟨λb o e c a _=>?_,λb o e c a _=>d b o e c a,λb o e c _=>x.un.free b o e c (by simp),λb o e _=>?_,x.un.tups,x.un.frzs,x.un.tbls⟩
 ·obtain⟨j,g⟩:=x.old b o e a
  have:=x.st b j g;rw[x.un.keep b o e c a (by simp)]at this;cases this;exact k6 b _ g
 ·by_cases a:b∈kU outer
  ·obtain⟨z,n⟩:=d b o e (fr0 b a) a
   exact⟨_,n⟩
  ·obtain⟨j,g⟩:=x.old b o e a
   exact⟨_,k6 b _ g⟩
def En(ea:Addr)(cls:Value)(od:Mc)(h:Heap):Prop:=∃o vs,h.get? ea=some o/\o.cls=cls/\o.dict=od/\o.data=.fields vs
abbrev xo(ea:Addr)(cls:Value)(od:Mc):HO:=.ext (En ea cls od)
theorem Inv.caught{cp:Value->Prop}{pins:LX}{σ:St}{s':LZ}{ea:Addr}{cls:Value}{od:Mc}(I:Inv X pins σ H s)(x:Fly0 X.prog X.w X.stack H s B H' s')(fl:iw cp B X.stack ea cls od .none h6)(up:s'.heap.UpToSlots h6)(hn:H' ea=none) :
  Inv X pins σ (aG H' ea (xo ea cls od)) {s' with heap:=h6}:=by
 obtain⟨v,vs,p,S,m,C⟩:=fl.there;have i:B.get? ea=none:=fl.new;have l:ea∉kU X.stack:=λR=>by
  obtain⟨_,o,w,M⟩:=fl.ff.mem R;rw[p]at w;cases w;exact M _ C
 have g:s.heap.get? ea=none:=by
  cases z:s.heap.get? ea with
  |none=>rfl
  |some o=>
   obtain⟨o',G⟩:=x.old ea o z l;rw[i]at G;cases G
 have u:=x.un2 fl.st up I.stkFree;have j:=rB x.hok x.cov x.st fl.st;have d:∀b o,H' b=some o->b≠ea:=λb o e z=>by rw[z,hn]at e;cases e
 refine I.call' (ch:=[]) x.os ⟨u.keep,u.slot,λb o e n O=>?_,u.there,λb r q=>?_,λb o y q=>?_,λb L q=>?_⟩ (λb o e=>?_) x.bare (λb z=>q0Q z (by simp))
 ·have nb:b≠ea:=λz=>by rw[z,g]at e;cases e
  rw[aq nb];exact u.free b o e n O
 ·have a:=u.tups b r q
  rw[aq (d _ _ a)];exact a
 ·have a:=u.frzs b o y q
  rw[aq (d _ _ a)];exact a
 ·obtain⟨more,a⟩:=u.tbls b L q
  exact⟨more,by rw[aq (d _ _ a)];exact a⟩
 ·by_cases D:b=ea
  ·subst D
   rw[af]at e;cases e;exact⟨⟨v,vs,p,S,m,C⟩,⟨v,p⟩,λh1 h2 ⟨o,J,Z,Y,U,T⟩ k=>⟨o,J,k o Z,Y,U,T⟩⟩
  ·rw[aq D]at e
   exact(j b o e).stay (λ_ _ _ q=>q) (λc q=>by rw[aq (d _ _ q)];exact q) λc r q=>by rw[aq (d _ _ q)];exact q
end L2
namespace PySem
open Sem (wp)
section
variable {M:Model}{A:Ma}{E:LV}
variable {nm q nm' q':Str}{C N D N':Addr}{bs bm bs' bm':L4}{hdct hdct':Bool}{sn sn':L9}{sub sub':L4}{ab ab':Bool}{col col':Option Bool}{dd dd':Mc}{k0 k1 k2 k3 k5 k0' k1' k2' k3' k5':Option Value}{newId newId':String}
theorem lu{h:Heap}{g:Array GenState}{d:Drawn}{t:Nat}{os:OsState}{e:Addr}{oe:Obj}{Q:Bool->Shared->Prop}
  (hC:h.get? C=some (excClassObj nm q C N bs bm hdct sn sub ab col dd k0 k1 k2 k3 k5 newId)) (hD:h.get? D=some (excClassObj nm' q' D N' bs' bm' hdct' sn' sub' ab' col' dd' k0' k1' k2' k3' k5' newId')) (he:h.get? e=some oe) (hcls:oe.cls=.ref C)
  (hbase:bm'.contains (.type "BaseException")=true) (hsub:(Value.ref C::bm).contains (.ref D)=true)
  (hq:Q true ⟨h,g,d,t,os⟩):wpAny M A (excMatches (.ref e) (.ref D)) Q E ⟨h,g,d,t,os⟩:=by
 have a:(Value.ref D::bm').contains (.type "BaseException")=true:=by rw[List.contains_cons,hbase,Bool.or_true]
 have f:=tc_notTuple;unfold excMatches
 repeat (first | (with_reducible refine wpAny_loadPart_at he ?_;rw[hcls]) | with_reducible refine wpAny_loadPart_at hD ?_ | (with_reducible refine wpAny_isSubtype_exc hD ?_;rw[a]) | (with_reducible refine wpAny_isSubtype_exc hC ?_;rw[hsub]) | wp_step)
 exact hq
end
end PySem
namespace L2
open PySem PySem.Spec PyProof.Rows
section
variable {X:Cx}{pins:LX}{σ:St}{H:Hp}{s:LZ}
theorem i6{i:Nat}{x:Str}{v:V}{pos:Pos}{Q:Unit->Shared->Prop}(I:Inv X pins σ H s)(hN:X.N.Nodup)(hi:X.N[i]?=some x)(hk:X.env.kindOf x=some .local)
  (h:∀s',Inv X pins (σ.set i none) H s'->Q () s'):wpAny M A (do bindName X.env x .none;unbindBehindTheSuite X.env x pos) Q E s:=by
 have g:X.env.scope.names.lookup x=some .local:=hk;refine q04 (wpAny_bindName (kr (v:=.non) I hN hi (.inl g) rfl (λs1 a=>?_) (.inr g)));unfold unbindBehindTheSuite;have B:i<σ.length:=by rw[I.len];exact(K1.mp hi).1
 obtain⟨m,T,U⟩:=id a.loc;obtain⟨u,ru,lk⟩:=U i x .non hi (LA B) (.inl g);have hm:m x=some u:=by
  rcases lk with⟨_,e⟩ | ⟨z,_⟩
  ·exact e
  ·rw[hk]at z;rcases z with z | z<;>cases z
 have C:(X.env.scope.kind==.class||(X.env.scope.kind==.module&&X.env.locals != X.env.globals))=false:=by rw[I.ok.kind];rfl
 refine wpAny_onRaise (wpAny_unbindName_local hk T hm C λh' R J l=>?_);have cne:=a.cne;obtain⟨oL,_,_,hoL,_⟩:=id T;refine h _ ⟨a.ok,a.os,a.bare,⟨λb o e n L w=>?_,λb o e n L w=>?_,a.base.free,λb o e w=>?_,a.base.tups,a.base.frzs,a.base.tbls⟩,⟨_,J,λj y Y r G e3=>?_⟩,λy c e=>?_,a.free,a.freeC,λp hp=>?_,λb ob e=>?_,by rw[List.length_set];exact I.len⟩
 ·exact(l.2 b (Lj (Li (Lq e) a.ok.above))).trans (a.base.keep b o e n L w)
 ·obtain⟨Z,r⟩:=a.base.slot b o e n L w
  exact⟨Z,(l.2 b (Lj (Li (Lq e) a.ok.above))).trans r⟩
 ·obtain⟨o',r⟩:=a.base.there b o e w
  exact⟨o',(l.2 b (Lj (Li (Lq e) a.ok.above))).trans r⟩
 ·by_cases D:j=i
  ·subst D
   rw[LA B]at G;cases G
  ·rw[List.getElem?_set_ne (Ne.symm D)]at G
   obtain⟨R,r',q⟩:=U j y Y r (by rw[List.getElem?_set_ne (Ne.symm D)];exact G) e3;refine⟨R,r',?_⟩;rcases q with⟨k,e⟩ | ⟨k,c,e,z⟩
   ·refine .inl ⟨k,?_⟩
    have:y≠x:=λe=>D (o0 hN r (e▸hi));simp[this,e]
   ·exact .inr ⟨k,c,e,z.sameBut l (cne y c e)⟩
 ·obtain⟨O,z⟩:=a.cell y c e
  exact⟨O,z.sameBut l (cne y c e)⟩
 ·obtain⟨e,n,S,nf,d⟩:=a.pin p hp
  exact⟨(l.2 p.1 S).trans e,n,S,nf,d⟩
 ·refine(a.hok b ob e).stay (λc O hc q=>(l.2 c ?_).trans q) (λ_ q=>q) λ_ _ q=>q
  rintro rfl;rcases hc with rfl | hc
  ·rw[a.free]at e;cases e
  ·rw[a.free]at hc;cases hc
abbrev Cx.held(X:Cx)(ea:Addr):Cx:={X with A:=X.A.mark (some (.ref ea)),calm:=false,xe:=λ_ _=>False}
theorem Inv.held(I:Inv X pins σ H s)(ea:Addr):Inv (X.held ea) pins σ H s:=
 ⟨⟨I.ok.mod,I.ok.kind,I.ok.glob,I.ok.blt,I.ok.above,I.ok.inj,I.ok.has,I.ok.cab,(λz=>by cases z),I.ok.frames,I.ok.stk,I.ok.exf,I.ok.bs,I.ok.bsz,I.ok.noex,I.ok.exfs,I.ok.funs,I.ok.frf⟩,I.os,I.bare,I.base,I.loc,I.cell,I.free,I.freeC,I.pin,I.hok,I.len⟩
theorem Inv.unheld{ea:Addr}(hd:X.calm=true->X.A.handled=none)(I:Inv (X.held ea) pins σ H s):Inv X pins σ H s:=
 ⟨⟨I.ok.mod,I.ok.kind,I.ok.glob,I.ok.blt,I.ok.above,I.ok.inj,I.ok.has,I.ok.cab,hd,I.ok.frames,I.ok.stk,I.ok.exf,I.ok.bs,I.ok.bsz,I.ok.noex,I.ok.exfs,I.ok.funs,I.ok.frf⟩,I.os,I.bare,I.base,I.loc,I.cell,I.free,I.freeC,I.pin,I.hok,I.len⟩
end
def vW(K:LW)(C D:Addr):Prop:=∃dd cd sl,K.lookup C=some ⟨.type "type",dd,.cls cd,sl⟩/\cd.mro.contains (.ref D)=true
section
variable {X:Cx}{pins:LX}{σ:St}{H:Hp}{s:LZ}
theorem Inv.moved{ch:L5}{h':Heap}{tk:Nat}(I:Inv X pins σ H s)(hf:∀b∈ch,mK X pins H b)(k:∀b o,b∉ch->s.heap.get? b=some o->h'.get? b=some o):Inv X pins σ H {s with heap:=h',toks:=tk}:=by
 have a:∀b o,H b=some o->b∉ch:=λb o e z=>by rw[(hf b z).1]at e;cases e
 refine I.call' (s':={s with heap:=h',toks:=tk}) (ch:=ch) rfl ⟨λb o e _ _ hc=>k b o hc e,λb o e _ _ hc=>⟨o.slots,k b o hc e⟩,λb o e n hc=>n,λb o e hc=>⟨o,k b o hc e⟩,λb xs q=>q,λb o y q=>q,λb qs q=>⟨#[],by rw[q];simp⟩⟩
  (λb o e=>(I.hok b o e).stay (λc u hc q=>k c u (by
   rcases hc with rfl | hc
   ·exact a _ _ e
   ·exact a _ _ hc) q) (λ_ q=>q) λ_ _ q=>q) I.bare λb d=>?_
 obtain⟨f0,l,f2,j,i,g⟩:=hf b d;exact⟨j,l,i,g⟩
theorem Inv.movedT{ch:L5}{h':Heap}{tk:Nat}{T:Addr}{ob:HO}(I:Inv X pins σ H s)(hf:∀b∈ch,mK X pins H b)(k:∀b o,b∉ch->s.heap.get? b=some o->h'.get? b=some o)(hT:s.heap.objs.size<=T)(new:bK X.prog X.w (aG H T ob) h' T ob) :
  Inv X pins σ (aG H T ob) {s with heap:=h',toks:=tk}:=by
 have g:∀b o,H b=some o->b∉ch:=λb o e z=>by rw[(hf b z).1]at e;cases e
 have a:H T=none:=I.hok.fresh hT;have j:∀b o,s.heap.get? b=some o->b≠T:=λb o e z=>by rw[z]at e;exact q0Q (Lq e) (Nat.not_lt.mpr hT)
 refine I.call' (s':={s with heap:=h',toks:=tk}) (ch:=ch) rfl ⟨λb o e _ _ hc=>k b o hc e,λb o e _ _ hc=>⟨o.slots,k b o hc e⟩,λb o e n hc=>by rw[aq (j b o e)];exact n,λb o e hc=>⟨o,k b o hc e⟩,λb i q=>by rw[aq (az q a)];exact q,λb o y q=>by rw[aq (az q a)];exact q,λb qs q=>⟨#[],by rw[aq (az q a),q];simp⟩⟩
  (λb o e=>?_) I.bare λb d=>?_
 ·by_cases d:b=T
  ·subst d
   rw[af]at e;cases e;exact new
  ·rw[aq d]at e
   exact(I.hok b o e).stay (λc u hc q=>k c u (by
    rcases hc with rfl | hc
    ·exact g _ _ e
    ·exact g _ _ hc) q) (λc q=>by rw[aq (az q a)];exact q) λc i q=>by rw[aq (az q a)];exact q
 ·obtain⟨f0,r,f2,p,m,l⟩:=hf b d
  exact⟨p,r,m,l⟩
end
end L2
namespace PySem.W
open PySem PySem.Spec PySem.Calls PyProof.Rows
section
variable {prog:L8}{w:Mb}{A:Ma}{E:LV}{s:LZ}{K:Frag}{x D:Addr}{ox:Obj}{odo:Option Obj}{name:Str}
theorem Dz(self:Value):bindSpecial (.builtin "BaseException.__getattribute__") self=pure (.builtin "BaseException.__getattribute__",[self]):=F.excAttr_ValueError.ga.bind self
theorem AN{tk:Tok}{Q:Unit->Shared->Prop}(X:K.In s.heap)(I:InstAt s.heap x ox D odo)(hb:mroIn K D (.type "BaseException")=some true)(h:Q () s) :
  wpAny (model prog w) A (checkBuiltinCall "BaseException.__getattribute__" ⟨[.ref x,.str name tk],[]⟩) Q E s:=by
 have L0:=I.type (M:=model prog w);have L1:=looks_mroIn (M:=model prog w) X hb;have e:Looks (model prog w) s.heap (isInstance (.ref x) (.type "BaseException")) true:=L0.andThen L1;have d:builtinKind "BaseException.__getattribute__"=some .slot:=by decide +kernel
 have c:splitId "BaseException.__getattribute__"=some ("BaseException","__getattribute__"):=by decide +kernel
 have b:=F.args_bexc_ga (.ref x) (.str name tk);simp only[checkBuiltinCall,d,c];refine q04 (e.at ?_);simp only[Bool.not_true,q0a,if_false];cases a:Manifest.signature? "BaseException.__getattribute__" with
 |none=>exact q05 h
 |some sig=>
  simp only[argsOk,a]at b;show wpAny _ _ (Bind.checkArgs _ sig _) Q E s;rw[b];exact q05 h
theorem yQ{Q:Option Value->Shared->Prop}(X:K.In s.heap)(I:InstAt s.heap x ox D odo)(hga:findIn K (.ref D) "__getattribute__"=some (some (.builtin "BaseException.__getattribute__")))(hgh:findIn K (.ref D) "__getattr__"=some none)
  (hb:mroIn K D (.type "BaseException")=some true) (hf:findObj K D odo name=some (.bind g a))
  (hc:∀(A':Ma) (R:Result->Shared->Prop),R (.ok (.ret v)) {s with toks:=s.toks+1}->codeAny (model prog w) A' (.call g ⟨[a,.ref x,.ref D],[]⟩) R {s with toks:=s.toks+1}) (hv:handedIn v=true) (h:Q (some v) {s with toks:=s.toks+1}) :
  wpAny (model prog w) A (getAttr? (.ref x) name) Q E s:=by
 obtain⟨hh,gg,d,t,os⟩:=s;have L0:=I.type (M:=model prog w);have L1:=looks_findIn (M:=model prog w) X hga;have e:=looks_findIn (M:=model prog w) X hgh;have c:=looks_find (M:=model prog w) X I hf;unfold getAttr? getAttrBy? getAttrBy;refine q04 (wpAny_mkText (q04 (wpAny_attempt (q0Y (q04 (L0.at (q04 (L1.at ?_))))))));show wpAny _ _ (getAttrByItsOwn _ _ _ _ _ _) _ _ _;unfold getAttrByItsOwn hookBefore;refine q04 (e.at ?_);refine q04 (wpAny_attempt (q0Y ?_));unfold callGetattribute boundAndCalled;show wpAny _ _ (bindSpecial _ _ >>= _) _ _ _;rw[Dz];refine q04 (q05 ?_);refine wpAny_call (codeAny_call_builtin F.excAttr_ValueError.ga.plain F.entry_bexc_ga (AN X I hb ?_));have b:slotArgs "__getattribute__" 1 ⟨[.ref x,.str name t],[]⟩=pure (.ref x,[.str name t]):=rfl;unfold Builtin.«object.__getattribute__»;show wpAny _ _ (slotArgs "__getattribute__" 1 ⟨[.ref x,.str name t],[]⟩ >>= _) _ _ _;rw[b];refine q04 (q05 ?_);refine q04 (q05 (q04 (L0.at (q04 (c.at ?_)))));show wpAny _ _ (holding [a] (call g [a,.ref x,.ref D]) >>= ret) _ _ _;refine q04 (q0Y (wpAny_call (hc _ _ (q05 ?_))));exact handed_on hv (q05 h)
theorem zb{Q:Option Value->Shared->Prop}(X:K.In s.heap)(I:InstAt s.heap x ox D odo)(hga:findIn K (.ref D) "__getattribute__"=some (some (.builtin "BaseException.__getattribute__")))(hgh:findIn K (.ref D) "__getattr__"=some none)
  (hb:mroIn K D (.type "BaseException")=some true) (hm:mroIn K D (.type "object")=some true) (hf:findObj K D odo "__class__"=some (.bind (.builtin "getset_descriptor.__get__") (.builtin "object.__class__"))) (h:Q (some (.ref D)) {s with toks:=s.toks+1}) :
  wpAny (model prog w) A (getAttr? (.ref x) "__class__") Q E s:=
 yQ (v:=.ref D) X I hga hgh hb hf (λA' R hR=>class_get (s:={s with toks:=s.toks+1}) (ox:=ox) (od:=odo) X I hm hR) rfl h
structure XTy(K:Frag)(D:Addr):Prop where
 ga:findIn K (.ref D) "__getattribute__"=some (some (.builtin "BaseException.__getattribute__"))
 gh:findIn K (.ref D) "__getattr__"=some none
 mb:mroIn K D (.type "BaseException")=some true
 mo:mroIn K D (.type "object")=some true
 ha:findIn K (.ref D) "__class__"=some (some (.builtin "object.__class__"))
 hn:specialIn K (.builtin "object.__class__") "__get__"=some (some (.builtin "getset_descriptor.__get__"))
 tk:takesIn K (.builtin "object.__class__")=some true
 cl:∃dd cd sl,K.lookup D=some ⟨.type "type",dd,.cls cd,sl⟩
theorem XTy.find(c:XTy K D):findObj K D odo "__class__"=some (.bind (.builtin "getset_descriptor.__get__") (.builtin "object.__class__")):=by
 obtain⟨dd,d,sl,a⟩:=c.cl;have b:clsIn K D=some d:=by unfold clsIn;rw[a]
 unfold findObj;rw[b,Option.bind_some,c.ha,Option.bind_some];simp[c.hn,c.tk]
theorem kitx_exc(c:XTy K D):KitX K (.ref x) (.ref D) (λh=>∃ox,InstAt h x ox D odo) where
 ty:=λ_ _ _ ⟨_,I⟩=>I.type
 it:=λ_ _ X _=>by
  obtain⟨dd,cd,sl,hl⟩:=c.cl;intro A' Q' E' s' k q;unfold isType loadHead;exact q04 (wpAny_loadPart (k _ _ (X _ _ hl)) (q05 q))
 ne:=λh tp dd its n sl X htp=>by
  obtain⟨dd,cd,sl,hl⟩:=c.cl;refine Bool.eq_false_iff.mpr λq=>?_;have e:D=tp:=Value.ref.inj (beq_iff_eq.mp q);subst e;have z:=q0R (λo=>o.map Obj.cls) ((X _ _ hl).symm.trans htp);simp at z
 ca:=λX ⟨_,I⟩ k=>zb X I c.ga c.gh c.mb c.mo c.find k
end
end PySem.W
namespace L2
open PySem PySem.Spec PyProof.Rows
section
variable {X:Cx}
theorem CL{h:Heap}(e:En a (.ref C) none h):∃ox,PySem.W.InstAt h a ox C none:=by
 obtain⟨o,vs,g,d,c,b⟩:=e;exact⟨o,g,d,by unfold PySem.W.notCls;rw[b],by rw[c];trivial⟩
theorem vS:∀{cs:List V} {us:L4},bc cs us->(∀c∈cs,j5 c=true)->us=cs.map wz
 | [],_,.nil,_=>rfl
 |c::cs,_,.cons r t,h=>by rw[Lu,sN r (h c (by simp)),vS t λz hz=>h z (by simp[hz])]
end
structure XR(K:LW)(C:Addr):Prop where
 ex:∃(bm bmN:L4) (newId Bn inN B nid initId:String),sZ K C bm newId/\ExcBaseFacts Bn newId inN bmN/\bm.contains (.type Bn)=true/\ExcBaseFacts B nid initId bm
theorem ri{X:Cx}{np cpos pos:Pos}{e₀:Expr}{bx:Md}{t:TA}(c:XR X.K C)(hc:X.calm=true)(hg:Gl X x)(hm:X.mg x=some (.ref C))(hx:BS X E)(ha:PA X (e₀::bx) t)
  (hd:autoParam ((x==("__debug__":Str))=false) zz2._auto_1)
  (he:autoParam (starEach (e₀::bx) X.env=(false,eval e₀ X.env)::starEach bx X.env) zz0._auto_1) (hpl:autoParam ((backTo cpos (starEach bx X.env)).any (·.1)=false) zz0._auto_1) :
  PS X (.Raise (some (.Call (.Name x np) (e₀::bx) [] cpos)) none pos) (sD C E t):=by
 obtain⟨bm,bmN,newId,Bn,inN,B,nid,initId,e,d,b,a⟩:=c.ex;exact B5 e d b a hc hg hm hx ha hd he hpl
section
variable {P:L8}{w:Mb}{K:LW}{mg:L6}{base:Heap}
theorem dj.okX{qual:Str}{st:Stmt}{f:Addr}{ps:L9}{sp:Sp}(F:dj K x qual st f fd)(S:aB N ps (ak st))(len:∀vs H Q E,sp vs H Q E->vs.length=ps.length)
  (hbody:∀(cdv:Value) (A:Ma) (outer:List Env) (s:LZ) (H:Hp) (vs:List V) (Q:VK) (E:XK),cI k (A.deeper (envOfC qual (ak st) s.heap.objs.size f cdv))->sp vs H Q E ->
   ∃t,ux (im (j8 P w) P w K mg base N qual (ak st) f cdv A outer s H E) (cB st) t/\t {nx:=λ_ H'=>Q .non H',rt:=Q} (start N vs) H):aS P w K mg base (j8 P w) (k+1) f fd ps sp:=by
 obtain⟨oc,od,kV,doc,pm,an,cdv,ct,osl,rfl,c,b⟩:=F.ex;exact AL c b S len λA outer s H vs Q E hr a=>hbody cdv A outer s H vs Q E hr a
theorem aS.lift{CX:iy}{f:Addr}{ps:L9}{sp:Sp}(F:↑aS k f fd ps sp):aS P w K mg base CX k f fd ps sp:=
 ⟨F.len,λA outer s H args us vs Q E hr he hb hv hs=>codeAny_mono (F.run A outer s H args us vs Q E hr he hb hv hs) λr s' hq=>by
  cases r with
  |error e=>exact False.elim hq
  |ok fl=>cases fl<;>exact hq⟩
theorem dl.lift{CX:iy}{ps:L9}{sp:Sp}(c:↑dl k x ps sp):dl P w K mg base CX k x ps sp:=by
 obtain⟨f,a,F,r⟩:=c.ex;exact⟨f,a,F.lift,r⟩
end
theorem sG{X:Cx}{K:LW}{es:Md}{t:CY}{n:Nat}{pos:Pos}(hK:X.K=K)(hc:X.calm=true)(h:F6 X es t)
  (hn:autoParam ((assignEach es X.env).length=n) zz0._auto_1) (hst:autoParam ((assignEach es X.env).findIdx? (·.1)=none) zz0._auto_1):PG X (.Tuple es k pos) (xK K n t):=hK▸wI hc h hn hst
end L2
namespace L2
open PySem PySem.Spec PyProof.Rows
def GG(K:LW)(a:Addr):It:=
 ⟨λi H=>∃xs x,aR K H a xs/\xs[i]?=some x,λi H v H'=>∃T x,v=.ref T/\H T=none/\H'=aG H T (.tup [.int (i:Int),x])/\∀xs,aR K H a xs->xs[i]?=some x,λi H=>∃xs,aR K H a xs/\xs.length<=i⟩
theorem Ac{K:LW}{elts:Md}{tp:Pos}{e it:Addr}(hei:e≠it) :
  wM P w K (.Tuple elts x1 tp) (GG K l) [e,it] e (λi h=>(∃old,IsEnum h e it i old)/\h.IsListIter it l i) where
 mem:=by simp
 obj:=λi h d b n=>by
  obtain⟨⟨old,a⟩,⟨Z,S,c1,d1⟩⟩:=d;simp only[Lf,List.not_mem_nil,or_false]at n;rcases n with rfl | rfl
  ·exact⟨_,a,λv q=>by cases q⟩
  ·exact⟨_,S,λv q=>by rw[d1]at q;cases q⟩
 keep:=λi h T d m=>by
  obtain⟨⟨old,a⟩,h1⟩:=d;exact⟨⟨old,m e (by simp) _ a⟩,h1.at λo e'=>m it (by simp) o e'⟩
 item:=by
  intro X O J R g i r s σ H E I hf d hg;subst O J R;obtain⟨U,x,y,G⟩:=hg;obtain⟨C,B,p,hz⟩:=I.list y;obtain⟨u,hu,Y⟩:=B.get G;obtain⟨⟨old,a⟩,h1⟩:=d;obtain⟨Z,S,_⟩:=id h1;refine wpAny_pyNext_enum_item a h1 p.isList (x:=u) (by simpa using hu) hei λT a1 a2 a3 a4 m=>?_;refine⟨_,rfl,wpAny_letOwnedTupleGo_enum a1 λh2 M j=>?_⟩;have k:H s.heap.objs.size=none:=I.hok.fresh (Ln _);have lt:∀{c o},s.heap.get? c=some o->s.heap.objs.size≠c:=λe=>Nat.ne_of_gt (Lq e);have kk:∀c o,c∉[e,it]->s.heap.get? c=some o->h2.get? c=some o:=λc o g q=>
   j.extBut _ _ (λz=>g (by simp[z])) (m c o (λz=>g (by simp[z])) (λz=>g (by simp[z])) q)
  have hT:h2.get? s.heap.objs.size=some {cls:=.type "tuple",data:=.seq #[.int i s.toks,u]}:=j.extBut _ _ (lt a) a3;refine⟨.ref s.heap.objs.size,aG H s.heap.objs.size (.tup [.int i,x]),I.movedT (tk:=s.toks+1) hf kk (Ln _) ⟨show 2<=sizeLine from by decide +kernel,[.int i s.toks,u],.cons ⟨_,rfl⟩ (.cons Y .nil),_,hT,rfl,_,rfl⟩,rfl,
   ⟨_,x,rfl,k,rfl,λzs D=>by rw[I.list_inj D y];exact G⟩,⟨⟨u,by simpa using M⟩,a2.extBut j.extBut (Ne.symm hei)⟩,λb n=>?_⟩
  have L:b≠s.heap.objs.size:=by
   simp only[Lf,List.not_mem_nil,or_false]at n;rcases n with rfl | rfl
   ·exact(lt a).symm
   ·exact(lt S).symm
  rw[aq L];exact(hf b n).1
 done:=by
  intro X O J R g i r s σ H E I hf d hg;subst O J R;obtain⟨U,y,G⟩:=hg;obtain⟨C,B,p,hz⟩:=I.list y;obtain⟨⟨old,a⟩,h1⟩:=d;have l1':=B.length;refine wpAny_pyNext_enum_end (I.ok.hd g) a h1 p.isList (by simp;omega) λT m=>⟨rfl,I.moved (tk:=s.toks) hf λc o g e=>m c o (λq=>g (by simp[q])) e⟩
 self:=λ_ _ _ _ _ d h=>let ⟨⟨_,a⟩,_⟩:=d;wpAny_pyIter_enum a h
section
variable {X:Cx}{elts:Md}{x1:Nat}{tp:Pos}
def AB(K:LW)(ta:TA):TI:=λσ H R=>ta σ H λvs H1=>∃a xs,vs=[.ref a]/\aR K H1 a xs/\R (GG K a) H1
theorem sj{a:Expr}{ta:TA}{p pos:Pos}(hg:Gl X "enumerate")(hm:X.mg "enumerate"=none)(ha:PA X [a] ta)(hs:autoParam (starEach [a] X.env=[(false,eval a X.env)]) zz0._auto_1):PI X (.Tuple elts x1 tp) (.Call (.Name "enumerate" p) [a] [] pos) (AB X.K ta):=by
 intro c s σ H R I h;refine Call_ (fo I hg hm boot_enumerate (PyProof.Rows.callWith_type1 (bT (ha pos c s σ H _ I h) λus d ⟨vs,H1,i,o,r⟩=>?_) (by rw[hs];rfl) (by rfl)));obtain⟨l,xs,rfl,w,q⟩:=r;obtain⟨u,rfl,n⟩:=o.one;cases n;obtain⟨its,rv,v,_⟩:=i.list w;refine call_enumerate_list v.isList λy j m z3 x=>?_;have z:Inv X c σ H1 {d with heap:=y }:=i.kept (t':=d.toks) x;refine wpAny_pyIter_enum j ?_;refine⟨d.heap.objs.size+1,[d.heap.objs.size+1,d.heap.objs.size],_,_,H1,rfl,z,Ac (l:=l) (Nat.ne_of_gt (Lx _)),⟨⟨_,j⟩,m⟩,λb k=>?_,q⟩;have g:d.heap.objs.size<=b:=by
  simp only[Lf,List.not_mem_nil,or_false]at k;rcases k with e | e<;>(rw[e];first | exact Ln _ | exact Nat.le_add_right _ _)
 exact i.fpOk g (i.hok.fresh g)
end
section
variable {K:LW}{g:TG}{tb:TS}{D:fW}{σ:St}{H:Hp}
theorem re{xs:List V}(Pv:Nat->St->Hp->Prop)(h0:Pv 0 σ H)(hl:∀i σ H,i<=xs.length->Pv i σ H->aR K H a xs)
  (hs:∀(i:Nat) x σ H T,xs[i]?=some x->Pv i σ H->H T=none->g (.ref T) σ (aG H T (.tup [.int (i:Int),x])) λσ2 H2=>tb {D with nx:=Pv (i+1),ct:=Pv (i+1),bk:=D.nx} σ2 H2) (hd:∀σ H,Pv xs.length σ H->D.nx σ H):Ci (GG K a) g tb D σ H:=by
 refine⟨λi m σ H=>m=xs.length-i/\i<=xs.length/\Pv i σ H,⟨xs.length,by simp,Lo _,h0⟩,?_⟩;rintro i m σ H ⟨rfl,c,p⟩;have q:=hl i σ H c p
 by_cases b:i<xs.length
 ·refine .inr ⟨⟨xs,xs[i],q,by simp[b]⟩,Pv (i+1),λσ' j p'=>⟨xs.length-(i+1),⋯,rfl,b,p'⟩,λx j y=>?_⟩
  obtain⟨T,x,rfl,d,rfl,y⟩:=y;exact hs i x σ _ T (y xs q) p d
 ·have e:i=xs.length:=by omega
  subst e;exact .inl ⟨⟨xs,q,Ln _⟩,hd σ H p⟩
end
end L2
namespace PySem.W
open PySem PySem.Spec PySem.Calls PyProof.Rows
open Builtin Builtin.ObjectAttr
def excOut(K:Frag)(C:Addr)(bmB:L4)(newId:String):Bool:=match K.lookup C with
 |some ⟨.type "type",_,.cls cd,sl⟩=>(match cd.mro,sl.toList with
  | .ref C'::bm,[_,_,_,_,some (.builtin n),_]=>C'==C&&n==newId && !cd.hasDel&&tailIn K bmB bm&&nsOkIn K cd.ns
  |_,_=>false)
 |_=>false
def Ez:List Value->List Value
 | .ref _::r=>Ez r
 |l=>l
end PySem.W
namespace L2
open PySem PySem.Spec PyProof.Rows
structure pT(K:LW)(C:Addr)(bmB:L4)(newId:String):Prop where
 exc:PySem.W.excOut K C bmB newId=true
set_option tactic.hygienic true in
theorem pT.obj{K:LW}{bmB:L4}{newId:String}(c:pT K C bmB newId)(X:K.In h):∃bm N nm q bs hdct sn sub ab col dd k0 k1 k2 k3 k5,
  h.get? C=some (excClassObj nm q C N bs bm hdct sn sub ab col dd k0 k1 k2 k3 k5 newId)/\OwnTail h bmB bm/\∃dd' cd sl,K.lookup C=some ⟨.type "type",dd',.cls cd,sl⟩/\cd.mro=.ref C::bm:=by
 have q:=c.exc;unfold PySem.W.excOut at q;cases hl:K.lookup C with
 |none=>rw[hl]at q;cases q
 |some ob=>
  rw[hl]at q
  split at q
  ·rename_i dd cd sl e
   cases e
   split at q
   ·rename_i C' bm k0 k1 k2 k3 n k5 hm hs
    simp only[q0O,beq_iff_eq,Bool.not_eq_true']at q;obtain⟨⟨⟨⟨rfl,rfl⟩,hdel⟩,ht⟩,hok⟩:=q;have ho:=X _ _ hl;have hsl:sl=#[k0,k1,k2,k3,some (.builtin n),k5]:=Array.toList_inj.mp hs;subst hsl;obtain⟨nm,bs,mro,ns,qn,hd,sn,sub,ab,col,del⟩:=cd;dsimp only at hm hdel hok ho;subst hm hdel;exact⟨bm,ns,nm,qn,bs,hd,sn,sub,ab,col,dd,k0,k1,k2,k3,k5,ho,PySem.W.tail_of_in X ht,dd,_,_,rfl,rfl⟩
   ·cases q
  ·cases q
def F_(H:Hp)(a C:Addr):Prop:=H a=some (xo a (.ref C) none)\/∃d fs,H a=some (xo a (.ref C) (some d))/\H d=some (.xd fs)
section
variable {X:Cx}{pins:LX}{σ:St}{H:Hp}{s:LZ}
theorem F_.inst(I:Inv X pins σ H s)(r:F_ H a C):∃odo ox,PySem.W.InstAt s.heap a ox C odo:=by
 rcases r with r | ⟨d,fs,r,b⟩
 ·obtain⟨e,_⟩:=(show bK X.prog X.w H s.heap a (xo a (.ref C) none) from I.hok a _ r)
  obtain⟨ox,z⟩:=CL e;exact⟨none,ox,z⟩
 ·obtain⟨⟨o,vs,l,k,j,i⟩,_⟩:=(show bK X.prog X.w H s.heap a (xo a (.ref C) (some d)) from I.hok a _ r)
  obtain⟨mA,n,_⟩:=(show bK X.prog X.w H s.heap d (.xd fs) from I.hok d _ b);obtain⟨c,g,_⟩:=qI n;exact⟨some c,o,l,k,by unfold PySem.W.notCls;rw[i],by rw[j];exact g⟩
def Gg(K:LW):List V->Hp->VK->Prop:=λxs H Q=>BU K xs H Q \/
 (∃a C c b,xs=[.ref a,c]/\j5 c=true/\F_ H a C/\PySem.W.XTy K C/\PySem.W.kitOne K (.ref C) (wz c)=some b/\Q (.bl b) H) \/
 (∃a C tp cs b,xs=[.ref a,.ref tp]/\H tp=some (.tup cs)/\(∀c∈cs,j5 c=true)/\F_ H a C/\PySem.W.XTy K C/\PySem.W.kitAny K (.ref C) (cs.map wz)=some b/\Q (.bl b) H)
theorem dQ:eM X (.builtin "isinstance") (Gg X.K):=by
 intro d s σ H xs us Q I r h;rcases h with h | ⟨a,C,c,b,rfl,l,m,ty,e,q⟩ | ⟨a,C,p,D,b,rfl,y,l,m,ty,e,q⟩
 ·exact cy d s σ H xs us Q I r h
 ·obtain⟨u,v,rfl,j,i⟩:=r.two
  cases j;rw[sN i l];obtain⟨odo,k⟩:=m.inst I;exact PySem.W.kia_one (PySem.W.kitx_exc (odo:=odo) ty) I.kIn k e (λz=>nomatch z) λg=>⟨.bl b,H,I.tok g,rfl,q⟩
 ·obtain⟨u,v,rfl,j,i⟩:=r.two
  cases j;cases i;obtain⟨odo,k⟩:=m.inst I;obtain⟨_,its,rvs,o,h1,h2,n,x⟩:=(show bK X.prog X.w H s.heap p (.tup D) from I.hok p _ y);obtain⟨oc,odd,odt,osl⟩:=o;dsimp only at h2 x;subst h2 x;have B:=vS rvs l;subst B;exact PySem.W.kia_tup (PySem.W.kitx_exc (odo:=odo) ty) I.kIn k h1 e (λz=>nomatch z) λg=>⟨.bl b,H,I.tok g,rfl,q⟩
end
end L2
namespace PySem.W
open PySem PySem.Spec PySem.Calls PyProof.Rows
end PySem.W
namespace SpM
open PySem
def glue(c:Nat):List (List Nat)->List Nat
 | []=>[]
 | [p]=>p
 |p::q::r=>p++c::glue c (q::r)
def step(c:Nat)(rows:List (List Nat))(d:Nat):List (List Nat):=if d=c then rows++[[]] else rows.dropLast++[rows.getLastD []++[d]]
def parts(c:Nat)(x:LY):List (List Nat):=x.foldl (step c) [[]]
theorem yq{c:Nat}:∀{p q a b:LY},c∉p->c∉q->p++c::a=q++c::b->p=q/\a=b
 | [],[],a,b,_,_,e=>⟨rfl,by simpa using e⟩
 | [],y::q,a,b,_,hq,e=>by simp at e;exact q0Q e.1 (λz=>hq (by simp[z]))
 |x::p,[],a,b,hp,_,e=>by simp at e;exact q0Q e.1.symm (λz=>hp (by simp[z]))
 |x::p,y::q,a,b,hp,hq,e=>by
  simp at e;obtain⟨e1,e2⟩:=yq (p:=p) (q:=q) (λz=>hp (by simp[z])) (λz=>hq (by simp[z])) e.2;exact⟨by rw[e.1,e1],e2⟩
theorem glue_inj(c:Nat):∀{rows rows':List (List Nat)},rows≠[]->rows'≠[]->(∀p∈rows,c∉p)->(∀p∈rows',c∉p)->glue c rows=glue c rows'->rows=rows'
 | [p],[q],_,_,_,_,e=>by simpa[glue]using e
 | [p],q::q'::r,_,_,hf,_,e=>by
  have:c∈p:=by rw[show p=q++c::glue c (q'::r) from e];simp
  exact q0Q this (hf p (by simp))
 |p::p'::r,[q],_,_,_,hf,e=>by
  have:c∈q:=by rw[show q=p++c::glue c (p'::r) from e.symm];simp
  exact q0Q this (hf q (by simp))
 |p::p'::r,q::q'::r',_,_,h1,h2,e=>by
  obtain⟨d,b⟩:=yq (h1 p (by simp)) (h2 q (by simp)) (show p++c::glue c (p'::r)=q++c::glue c (q'::r') from e);have:=glue_inj c (rows:=p'::r) (rows':=q'::r') (by simp) (by simp) (λz a=>h1 z (by simp[a])) (λz a=>h2 z (by simp[a])) b;rw[d,this]
theorem join_glue(c:Nat):∀(ys:L9),(Builtin.Str.glued ⟨#[c]⟩ ys).cps.toList=glue c (ys.map λy=>y.cps.toList)
 | []=>rfl
 |y::ys=>by
  have key:∀(zs:L9) (a:Array Nat),(zs.foldl (λacc (p:Str)=>acc++(⟨#[c]⟩:Str).cps++p.cps) a).toList=glue c (a.toList::zs.map λy=>y.cps.toList):=by
   intro zs
   induction zs with
   |nil=>intro a;rfl
   |cons z zs ih=>
    intro a;rw[List.foldl_cons,ih];show glue c ((a ++ #[c]++z.cps).toList::_)=a.toList++c::glue c (z.cps.toList::_);have e:(a ++ #[c]++z.cps).toList=a.toList++c::z.cps.toList:=by simp
    rw[e];cases zs with
    |nil=>simp[glue]
    |cons w ws=>simp[glue]
  exact key ys y.cps
end SpM
namespace PyProof.Rows
open PySem PySem.Spec PySem.Builtin PySem.Builtin.Str
end PyProof.Rows
namespace L2
open PySem PySem.Spec PyProof.Rows QL
structure Cd(K:LW)(C:Addr)(m:Str)(f:Addr):Prop where
 sp:PySem.W.specialIn K (.ref C) "__getattribute__"=some (some (.builtin "type.__getattribute__"))
 rd:PySem.W.readsIn K C (.type "type")=true
 fi:PySem.W.findCls K (.ref C) (.type "type") m=some (.val (.ref f))
 kp:PySem.W.keepIn K (.ref f)=true
section
variable {X:Cx}{CX:iy}{k:Nat}{f C:Addr}{fd:L7}{ps:L9}{sp:Sp}{E:XK}{x m:Str}{p pos apos:Pos}{e:Expr}{es:Md}{t:TA}
theorem B_{pl:Sem Bool}(c:Cd X.K C m f)(F:aS X.prog X.w X.K X.mg X.base CX k f fd ps sp)(hr:cI k X.A)(hg:Gl X x)(hm:X.mg x=some (.ref C))(hb:dO X.K fd ps [])(hx:cT CX X E)(ha:PA X (e::es) t)
  (hdb:autoParam ((x==("__debug__":Str))=false) zz2._auto_1) (hst:autoParam (starEach (e::es) X.env=(false,eval e X.env)::starEach es X.env) zz0._auto_1) (hpl:autoParam ((backTo pos (starEach es X.env)).any (·.1)=false) zz0._auto_1)
  (ht:autoParam (eval (.Call (.Attribute (.Name x p) m apos) (e::es) [] pos) X.env=(do
   let ov <- eval (.Name x p) X.env
   standAt apos.atName
   let (f,first) <- holding [ov] (getMethod ov m pl)
   callWith pos f first (backTo pos (starEach (e::es) X.env)) (backToKw pos (keywordEach [] X.env)))) zz0._auto_1) :
  PE X (.Call (.Attribute (.Name x p) m apos) (e::es) [] pos) (mj sp [] E t):=by
 intro a s σ H Q I h;refine PySem.W.methodCall_KW (pl:=pl) (g_ I hg hm ?_ hdb) ht;refine PySem.W.method_cls I.kIn c.sp (PySem.W.cls_value I.kIn c.rd c.fi rfl ?_);have g:=I.tok (s.toks+1);refine PySem.W.callWith_K (first:=[]) (h₀:=X.base) I.ok.mod.kin c.kp (bT (ha pos a _ σ H _ g h) λus s2 ⟨vs,H2,b,r,d⟩=>⟨b.kIn,?_⟩) hst hpl;exact lU F hr hb .nil hx b r d
end
section
variable (P:L8)(w:Mb)(K:LW)(mg:L6)(base:Heap)(CX:iy)
structure y_(k:Nat)(x m:Str)(ps:L9)(sp:Sp):Prop where
 ex:∃(C f:Addr) (fd:L7),aS P w K mg base CX k f fd ps sp/\mg x=some (.ref C)/\Cd K C m f/\dO K fd ps []
structure k9(k:Nat)(x:Str)(C:Addr)(ps:L9)(sp:Sp):Prop where
 ex:∃(f:Addr) (fd:L7),aS P w K mg base CX k f fd ps sp/\mg x=some (.ref C)/\Mk K C f/\dO K fd ps []
structure gI(k:Nat)(C:Addr)(m:Str)(ps:L9)(sp:Sp):Prop where
 ex:∃(f:Addr) (fd:L7),aS P w K mg base CX k f fd ps sp/\io K C/\ip K C m f/\dO K fd ps []
end
section
variable {X:Cx}{CX:iy}{k:Nat}{C:Addr}{ps:L9}{sp:Sp}{E:XK}{x m:Str}{p pos apos:Pos}{e o:Expr}{es:Md}{t:TA}{ta:TE}
theorem nr{pl:Sem Bool}(c:y_ X.prog X.w X.K X.mg X.base CX k x m ps sp)(hr:cI k X.A)(hg:Gl X x)(hx:cT CX X E)(ha:PA X (e::es) t)
  (hdb:autoParam ((x==("__debug__":Str))=false) zz2._auto_1) (hst:autoParam (starEach (e::es) X.env=(false,eval e X.env)::starEach es X.env) zz0._auto_1) (hpl:autoParam ((backTo pos (starEach es X.env)).any (·.1)=false) zz0._auto_1)
  (ht:autoParam (eval (.Call (.Attribute (.Name x p) m apos) (e::es) [] pos) X.env=(do
   let ov <- eval (.Name x p) X.env
   standAt apos.atName
   let (f,first) <- holding [ov] (getMethod ov m pl)
   callWith pos f first (backTo pos (starEach (e::es) X.env)) (backToKw pos (keywordEach [] X.env)))) zz0._auto_1) :
  PE X (.Call (.Attribute (.Name x p) m apos) (e::es) [] pos) (mj sp [] E t):=by
 obtain⟨C,f,fd,F,a,d,b⟩:=c.ex;exact B_ d F hr hg a b hx ha hdb hst hpl ht
theorem i8(c:k9 X.prog X.w X.K X.mg X.base CX k x C ps sp)(hr:cI (k+1) X.A)(hg:Gl X x)(hx:cT CX X E)(ha:PA X (e::es) t)
  (hdb:autoParam ((x==("__debug__":Str))=false) zz2._auto_1) (hst:autoParam (starEach (e::es) X.env=(false,eval e X.env)::starEach es X.env) zz0._auto_1) (hpl:autoParam ((backTo pos (starEach es X.env)).any (·.1)=false) zz0._auto_1) :
  PE X (.Call (.Name x p) (e::es) [] pos) (xW C sp [] E t):=by
 obtain⟨f,fd,F,a,M,b⟩:=c.ex;exact C7 M F hr hg a b .nil hx ha hdb hst hpl
theorem ke{pl:Sem Bool}(c:gI X.prog X.w X.K X.mg X.base CX k C m ps sp)(hr:cI k X.A)(hx:cT CX X E)(he:PE X o ta)(ha:PA X (e::es) t)
  (hst:autoParam (starEach (e::es) X.env=(false,eval e X.env)::starEach es X.env) zz0._auto_1) (hpl:autoParam ((backTo pos (starEach es X.env)).any (·.1)=false) zz0._auto_1)
  (ht:autoParam (eval (.Call (.Attribute o m apos) (e::es) [] pos) X.env=(do
   let ov <- eval o X.env
   standAt apos.atName
   let (f,first) <- holding [ov] (getMethod ov m pl)
   callWith pos f first (backTo pos (starEach (e::es) X.env)) (backToKw pos (keywordEach [] X.env)))) zz0._auto_1) :
  PE X (.Call (.Attribute o m apos) (e::es) [] pos) (rq C m sp [] E ta t):=by
 obtain⟨f,fd,F,d,a,b⟩:=c.ex;exact Dc he d a F hr b .nil hx ha hst hpl ht
theorem oK{pl:Sem Bool}(c:gI X.prog X.w X.K X.mg X.base CX k C m ps sp)(hr:cI k X.A)(hx:cT CX X E)(he:PE X o ta)
  (ht:autoParam (eval (.Call (.Attribute o m apos) [] [] pos) X.env=(do
   let ov <- eval o X.env
   standAt apos.atName
   let (f,first) <- holding [ov] (getMethod ov m pl)
   callWith pos f first (backTo pos (starEach [] X.env)) (backToKw pos (keywordEach [] X.env)))) zz0._auto_1) :
  PE X (.Call (.Attribute o m apos) [] [] pos) (rq C m sp [] E ta nK):=by
 obtain⟨f,fd,F,d,a,b⟩:=c.ex;exact AY he d a F hr b .nil hx ht
end
section
variable {g:TG}{ti:TT}{te:TE}{σ:St}{H:Hp}{Q:List V->Hp->Prop}
theorem A7{x:Str}(Pv:Nat->List V->St->Hp->Prop)(h0:Pv 0 [] σ H)(hz:∀i acc σ H,Pv i acc σ H->acc.length<sizeLine)(hi:∀i acc σ H,Pv i acc σ H->i<=x.cps.size)
  (hs:∀i c acc σ H,x.cps[i]?=some c->Pv i acc σ H->g (.str ⟨#[c]⟩) σ H λσ2 H3=>ti σ2 H3 λb H4=>if b=true then te σ2 H4 λv H5=>Pv (i+1) (acc++[v]) σ2 H5 else Pv (i+1) acc σ2 H4)
  (he:∀acc σ H,Pv x.cps.size acc σ H->Q acc H):gl (Gp x) g ti te σ H Q:=by
 exact km (J:=Gp x) (g:=g) (ti:=ti) (te:=te) (Q:=Q) (n:=x.cps.size) Pv h0 hz hi (λacc σ H w=>Ln _) (λi acc σ H hlt w=>hlt)
  (λi v acc σ H H2 hlt w y=>by obtain⟨rfl,c,a,rfl⟩:=y;exact hs i c acc σ H2 a w) he
end
section
variable (P:L8)(w:Mb)(K:LW)(mg:L6)(base:Heap)(CX:iy)
structure xU(k:Nat)(m:Str)(os:List (Addr×Sp)):Prop where
 ex:∀o∈os,∃ps,gI P w K mg base CX k o.1 m ps o.2
end
def sJ(m:Str)(os:List (Addr×Sp))(E:XK)(ta:TE)(t:TA):TE:=λσ H Q=>ta σ H λx H1=>∃o∈os,∃a dx fs,x=.ref a/\H1 a=some (.ins o.1 dx fs)/\fs.lookup m=none /\
 t σ H1 λvs H2=>o.2 (x::(vs++[])) H2 Q E
section
variable {X:Cx}{CX:iy}{k:Nat}{os:List (Addr×Sp)}{E:XK}{m:Str}{pos apos:Pos}{e o:Expr}{es:Md}{t:TA}{ta:TE}
theorem DI{pl:Sem Bool}(c:xU X.prog X.w X.K X.mg X.base CX k m os)(hr:cI k X.A)(hx:cT CX X E)(he:PE X o ta)(ha:PA X (e::es) t)
  (hst:autoParam (starEach (e::es) X.env=(false,eval e X.env)::starEach es X.env) zz0._auto_1) (hpl:autoParam ((backTo pos (starEach es X.env)).any (·.1)=false) zz0._auto_1)
  (ht:autoParam (eval (.Call (.Attribute o m apos) (e::es) [] pos) X.env=(do
   let ov <- eval o X.env
   standAt apos.atName
   let (f,first) <- holding [ov] (getMethod ov m pl)
   callWith pos f first (backTo pos (starEach (e::es) X.env)) (backToKw pos (keywordEach [] X.env)))) zz0._auto_1) :
  PE X (.Call (.Attribute o m apos) (e::es) [] pos) (sJ m os E ta t):=by
 intro b s σ H Q I h;refine PySem.W.methodCall_KW (pl:=pl) (bT (he b s σ H _ I h) λu j ⟨x,H1,i,n,v,w,a,dx,fs,ex,z,l,q⟩=>?_) ht;subst ex;obtain rfl:u=Value.ref a:=n;obtain⟨ps,B⟩:=c.ex v w;obtain⟨f,fd,F,C,d,y⟩:=B.ex;refine fq i z C d l ?_;refine PySem.W.callWith_K (first:=[.ref a]) (h₀:=X.base) I.ok.mod.kin d.kp (bT (ha pos b j σ H1 _ i q) λus s2 ⟨vs,H2,g,r,p⟩=>⟨g.kIn,?_⟩) hst hpl;exact lU (us:=.ref a::us) (vs:=.ref a::vs) F hr y .nil hx g (.cons rfl r) p
theorem CI{pl:Sem Bool}(c:xU X.prog X.w X.K X.mg X.base CX k m os)(hr:cI k X.A)(hx:cT CX X E)(he:PE X o ta)
  (ht:autoParam (eval (.Call (.Attribute o m apos) [] [] pos) X.env=(do
   let ov <- eval o X.env
   standAt apos.atName
   let (f,first) <- holding [ov] (getMethod ov m pl)
   callWith pos f first (backTo pos (starEach [] X.env)) (backToKw pos (keywordEach [] X.env)))) zz0._auto_1) :
  PE X (.Call (.Attribute o m apos) [] [] pos) (sJ m os E ta nK):=by
 intro b s σ H Q I h;refine PySem.W.methodCall_KW (pl:=pl) (bT (he b s σ H _ I h) λu s1 ⟨x,H1,d,g,i,j,a,dx,fs,ex,p,l,q⟩=>?_) ht;subst ex;obtain rfl:u=Value.ref a:=g;obtain⟨ps,r⟩:=c.ex i j;obtain⟨f,fd,F,v,e,n⟩:=r.ex;refine fq d p v e l ?_;exact PySem.W.callWith_K0 (first:=[.ref a]) d.kIn e.kp (lU (us:=[.ref a]) (vs:=[.ref a]) F hr n .nil hx d (.cons rfl .nil) q)
end
structure jk(K:LW)(C:Addr):Prop where
 cl:io K C
 ha:PySem.W.findIn K (.ref C) "__class__"=some (some (.builtin "object.__class__"))
 hn:PySem.W.specialIn K (.builtin "object.__class__") "__get__"=some (some (.builtin "getset_descriptor.__get__"))
 htk:PySem.W.takesIn K (.builtin "object.__class__")=some true
 hm:PySem.W.mroIn K C (.type "object")=some true
theorem jk.ty{K:LW}{H:Hp}{fs:List (Str×V)}(i:jk K C)(e:H a=some (.ins C dx fs)):jo K H (.ref a) (.ref C):=.ins e i.cl i.ha i.hn i.htk i.hm
section
variable {X:Cx}{es:Md}{t:TA}
theorem cV{x j p}(hr:PA X es t):PA X (.Constant (.str x) j p::es) (kc (tC (.str x)) t):=ac iE hr rfl
theorem ce{x j p}(hr:PA X es t):PA X (.Constant (.int x) j p::es) (kc (tC (.int x)) t):=ac aj hr rfl
end
end L2
namespace PyProof.Rows
open PySem PySem.Spec PySem.Builtin PySem.Builtin.Str
end PyProof.Rows
namespace L2
open PySem PySem.Spec PyProof.Rows QL
theorem rQ:∀(xs:List V) (us:L4),xs.length=us.length->(∀(j:Nat) (x:V) (u:Value),xs[j]?=some x->us[j]?=some u->bh x u)->bc xs us
 | [],[],_,_=>.nil
 |x::xs,u::us,hl,h=>.cons (h 0 x u rfl rfl) (rQ xs us (by simpa using hl) λj y v e1 e2=>h (j+1) y v (by simpa using e1) (by simpa using e2))
section
variable {X:Cx}{pins:LX}{σ:St}{H:Hp}{s:LZ}{a:Addr}{kvs:List (cP×V)}{k:cP}{u r:Value}{d:V}{A:Ma}{E:LV}
theorem A4{Q:LV}(I:Inv X pins σ H s)(e:H a=some (.dK kvs))(ry:bh (kV k) u)(rd:bh d r)(hl:kvs.length<sizeLine)
  (h1:∀v w' s',dF kvs k=some v->Inv X pins σ H s'->bh v w'->Q w' s') (h2:dF kvs k=none->∀s',Inv X pins σ (aG H a (.dK (du kvs k d))) s'->Q r s') :
  wpAny (model X.prog X.w) A (call (.builtin "dict.setdefault") [.ref a,u,r]) Q E s:=by
 obtain⟨z,j,vs,c,l⟩:=qK I.hok e;have m:vs.length<=sizeLine:=by rw[<- c.length];exact z
 have i:(du kvs k d).length<=sizeLine:=by have:=fO kvs k d;omega
 refine call_meetsIn PySem.F.slot_dict_setdefault l.typeIs PySem.F.entry_dict_setdefault (PySem.F.args_dict_setdefault_3 _ _ _) (kt_meets_setdefault (bQ X.prog X.w) a (mq ry) j r) ⟨vs,l,m,λv n=>?_,λp y g o=>?_⟩
 ·have q:=c.val k
  rw[n]at q;cases b:dF kvs k with
  |none=>rw[b]at q;exact False.elim q
  |some v0=>rw[b]at q;exact h1 v0 v _ b (I.tok _) q
 ·have q:=c.val k
  rw[p]at q;have b:dF kvs k=none:=by
   cases b:dF kvs k with
   |none=>rfl
   |some v0=>rw[b]at q;exact False.elim q
  have x:∃q,y.get? a=some q:=let ⟨q,_,_,hq,_⟩:=g;⟨q,hq⟩
  exact h2 b _ (m_ I (by rw[e];exact True.intro) o x (xu i j (c.put k rd) g))
end
def u4(td ty tx:TE):TE:=λσ H Q=>td σ H λx H1=>∃a,x=.ref a/\G7 H1 a/\ty σ H1 λy H2=>tx σ H2 λz H3=>∃kvs k,H3 a=some (.dK kvs)/\y=kV k/\kvs.length<sizeLine /\
 (∀v,dF kvs k=some v->Q v H3)/\(dF kvs k=none->Q z (aG H3 a (.dK (du kvs k z))))
section
variable {X:Cx}{o e f:Expr}{apos cpos:Pos}{td ty tx:TE}
theorem pC(ho:PE X o td)(he:PE X e ty)(hf:PE X f tx)(m:M2 X o "setdefault" apos e f cpos):PE X (.Call (.Attribute o "setdefault" apos) [e,f] [] cpos) (u4 td ty tx):=by
 intro b s σ H Q I h;refine wpAny_Call_method m.base m.few m.line PySem.F.plainAttrs_dict PySem.F.slot_dict_setdefault PySem.F.type_dict_setdefault (bT (ho b s σ H _ I h) λu r ⟨x,H1,j,B,a,T,d,G⟩=>?_);subst T;obtain rfl:u=Value.ref a:=B;obtain⟨n,l,_⟩:=wt j d;refine⟨n,l,?_⟩;rw[m.trees];refine Calls.callWith_builtin rfl (Calls.evalArgs_plain (Calls.spliced_cons (bT (he b r σ H1 _ j G) λiv q ⟨y,H2,Y,w,D⟩=>
  Calls.spliced_cons (bT (hf b q σ H2 _ Y D) λfv s3 ⟨z,Z,U,i,kvs,k,M,S,c,R,O⟩=>Calls.spliced_nil ?_))))
 subst S;exact A4 U M w i c (λv w' p J g C=>⟨v,Z,g,C,R v J⟩) λL p g=>⟨z,_,g,i,O L⟩
end
theorem Go(h:(bQ P w).is k u=true):bh (kV k) u:=by
 rcases b7 (show o_ k u=true from h) with⟨i,t,rfl,rfl⟩ | ⟨x,t,rfl,rfl⟩<;>exact⟨_,rfl⟩
section
variable {X:Cx}
def xi:List V->Hp->VK->Prop:=λxs H Q=>∃a kvs,xs=[.ref a]/\H a=some (.dK kvs)/\∀l,H l=none->Q (.ref l) (aG H l (.lst (kvs.map λkv=>kV kv.1)))
theorem xq(hc:X.calm=true):eM X (.type "list") xi:=by
 intro pins s σ H xs us Q I r h;obtain⟨a,g,rfl,e,q⟩:=h;obtain⟨u,rfl,o⟩:=ou r;obtain rfl:u=Value.ref a:=o;obtain⟨z,hd,vs,d,J⟩:=qK I.hok e;obtain⟨ep,L⟩:=J.dictAt;have p:vs.length<=sizeLine:=by rw[<- d.length];exact z
 refine PySem.W.kdl_call (PySem.W.kdl_dict hd) (I.ok.hd hc) L p λh' n c M B D b=>?_;have v:bc (g.map λi=>kV i.1) c.toList:=by
  refine rQ _ _ (by rw[K3];simp[b.1,d.length]) λj x u m G=>?_;obtain⟨k,w,l,C⟩:=b.2 j u (by simpa using G);have y:(g.map λi=>kV i.1)=(vs.map (·.1)).map kV:=by rw[<- d.keys,Le];rfl
  rw[y,K5,K5,l]at m;cases m;exact Go C
 exact⟨.ref s.heap.objs.size,aG H s.heap.objs.size (.lst (g.map λi=>kV i.1)),I.laid (t':=n) B (Ln _) ⟨by rw[K3];exact z,c.toList,M,v,by simpa using D⟩,rfl,q _ (I.hok.fresh (Ln _))⟩
end
section
variable {K:Type}[DecidableEq K]
def fE(σ:List K)(v:K):List K:=if v∈σ then σ else σ++[v]
def met(l:List K):List K:=l.foldl fE []
theorem uE(σ:List K)(v k:K):decide (k∈fE σ v)=(decide (k∈σ)||decide (k=v)):=by
 unfold fE
 by_cases h:v∈σ
 ·rw[q07 h]
  by_cases e:k=v
  ·subst e;simp[h]
  ·simp[e]
 ·rw[q06 h]
  simp[Ld]
theorem mv(σ:List K)(v:K):(fE σ v).length=if decide (v∈σ) then σ.length else σ.length+1:=by
 unfold fE
 by_cases h:v∈σ<;>simp[h]
theorem uK(l:List K)(v:K):met (l++[v])=fE (met l) v:=by unfold met;rw[List.foldl_append];rfl
theorem yF:∀(l σ:List K),(l.foldl fE σ).length<=σ.length+l.length
 | [],σ=>Ln _
 |v::l,σ=>by
  have h:=yF l (fE σ v);have e:=mv σ v;rw[List.foldl_cons,Lb]
  split at e<;>omega
theorem AQ(n:Nat)(l:List K)(h:l.length=n):(met l).length<=n:=by
 have:=yF l [];rw[<- h];unfold met;simpa using this
end
section
variable {prog:L8}{w:Mb}{K:Type}[DecidableEq K]{knd:KeyKind prog w K}{A:Ma}{R:Result->Shared->Prop}{I:Addr}{fp wr:L5}{G:Array GenState->Array GenState->Prop}{n:Nat}{P:Nat->Value->Prop}{St:Nat->Shared->Prop}
theorem Du(W:WalksS prog w A.in1 I fp wr G n P St)(S:Addr)(hSf:S∉fp)(l:List K)(hl:l.length=n)
  (hval:∀i v,P i v->∃k,l[i]?=some k/\knd.is k v=true/\v.scannable=true) (hb:n+1<scanBound) :
  ∀(k i:Nat) (s:LZ),n-i=k->i<=n->St i s ->
   s.heap.SetOf knd S (λk'=>decide (k'∈met (l.take i))) (met (l.take i)).length ->
   (∀s',Moved (S::wr) G s s'->s'.heap.SetOf knd S (λk'=>decide (k'∈met l)) (met l).length->R (.ok (.ret .none)) s') ->
   codeAny (model prog w) A (.builtin "set.update.loop" ⟨[.ref S,.ref I],[]⟩) R s:=by
 have y:S∉wr:=λh=>hSf (W.sub _ h);have a:∀b∈wr,b∈S::wr:=λb hb=>Lg _ hb;intro k
 induction k with
 |zero=>
  intro i s hk hi c B U;have L:i=n:=by omega
  subst L;rw[<- hl,LB]at B;refine codeAny_builtin F.entry_set_update_loop ?_;rw[Around.under_plainId F.plain_set_update_loop _];show wpAny _ A.in1 (pyNext (.ref I) >>= _) _ _ s;refine q04 (W.done s _ _ c λs' q=>?_);show wpAny _ A.in1 (ret Value.none) _ _ s';refine q05 (U s' (q.mono a) ?_);obtain⟨o,Y,Z,t,J,bx⟩:=B;exact⟨o,Y,Z,t,q.heap S _ y J,bx⟩
 |succ k ih=>
  intro i s hk hi c B U;have r:i<n:=by omega
  refine codeAny_builtin F.entry_set_update_loop ?_;rw[Around.under_plainId F.plain_set_update_loop _];show wpAny _ A.in1 (pyNext (.ref I) >>= _) _ _ s;refine q04 (W.item i s _ _ r c λv s' hP j q=>?_);obtain⟨g,u,x,D⟩:=hval i v hP;have T:s'.heap.SetOf knd S (λk'=>decide (k'∈met (l.take i))) (met (l.take i)).length:=by
   obtain⟨o,Y,Z,tb,J,bx⟩:=B;exact⟨o,Y,Z,tb,q.heap S _ y J,bx⟩
  show wpAny _ A.in1 (holding [v] (setAdd S v) >>= _) _ _ s';refine q04 (q0Y ?_);unfold setAdd;refine q0Y ?_;refine q04 (knd.pyHash (k:=g) x ?_);have d:(met (l.take i)).length+1<scanBound:=by have:=AQ i (l.take i) (by rw[LC];omega);omega
  refine wpAny_setAddHashed_of (knd:=knd) (s:={s' with toks:=s'.toks+1}) x D T d λh' m O=>?_;have ht:l.take (i+1)=l.take i++[g]:=by rw[q0E,u];rfl
  have M:h'.SetOf knd S (λk'=>decide (k'∈met (l.take (i+1)))) (met (l.take (i+1))).length:=
   SetOf_congr O (λk'=>by rw[ht,uK,uE]) (by rw[ht,uK,mv])
  refine q05 ⟨plainId_quiet F.plain_set_update_loop _,ih (i+1) _ ⋯ r (W.frame _ s' _ _ j (Nat.le_succ _) λb hb o e=>?_) M λC p z=>?_⟩
  ·rw[m.2 b (λh:b=S=>hSf (by rw[<- h];exact hb))];exact e
  ·refine U C (Moved.trans W.gtrans ((q.mono a).then_heap (Nat.le_succ _) λb o hb e=>?_) p) z
   rw[m.2 b (λh:b=S=>hb (by rw[h];exact q0B))];exact e
end
def dh(z:Str):List Str:=z.cps.toList.map λc=>(⟨#[c]⟩:Str)
section
variable {prog:L8}{w:Mb}{A:Ma}{E:LV}{s:LZ}
def BA(s:LZ)(led:Bool):Shared:={s with heap:=s.heap.push {cls:=.type "set",dict:=none,data:=.set #[] 0 (.fresh 0 0 led)} }
set_option maxHeartbeats 3200000 in
theorem tV{v:Value}{R:Heap->Nat->Prop}{Q:LV}
  (hi:∀led,(BA s led).TypeIs (.ref s.heap.objs.size) "set"->codeAny (model prog w) A.in1 (.call (.builtin "set.__init__") {pos:=[.ref s.heap.objs.size,v]})
   (wants (λr s₂=>r=.none/\∃h' tk,s₂={s with heap:=h',toks:=tk}/\R h' tk) E) (BA s led))
  (h:∀(h':Heap) (tk:Nat),R h' tk->Q (.ref s.heap.objs.size) {s with heap:=h',toks:=tk}) :
  wpAny (model prog w) A (call (.type "set") [v]) Q E s:=by
 obtain⟨c,tl,hmro⟩:=PySem.F.called_set.mro;have hmade:=PySem.F.called_set.made;have hsub:=PySem.F.called_set.sub;refine wpAny_call (codeAny_of_tree ?_);show wpAny _ _ (callAny (.type "set") _) _ _ _;refine q05 ⟨Code.quiet_builtin _ (by decide +kernel),codeAny_builtin PySem.F.entry_type_call ?_⟩;rw[Around.under_plain (weight_type_call_type "set" [v] []) rfl];have h1:=PySem.F.called_set.notType;have h2:=PySem.F.called_set.canCreate;have hct:=PySem.F.typeCall_set_1 v
 repeat (any_goals (first | with_reducible assumption | with_reducible refine q05 ?_ | with_reducible refine q04 ?_ | with_reducible refine q0Y ?_ | with_reducible refine wpAny_of_eq (by assumption) ?_ | with_reducible refine wpAny_isInstance (by assumption) (by assumption) ?_ | with_reducible refine wpAny_specialOf (by assumption) (by assumption) ?_ | with_reducible refine wpAny_call ?_ | ((with_reducible apply wpAny_ite_false);focus (rfl;done)) | wp_delta))
 refine codeAny_mono (code_set_new_1 v (E:=E) (Q₁:=λobj b=>∃led:Bool,obj=.ref s.heap.objs.size/\b=BA s led) λled=>⟨led,rfl,rfl⟩) λr b hr=>?_;cases r with
 |error e=>exact hr
 |ok fl=>
  cases fl with
  |ret obj=>
   obtain⟨led,rfl,rfl⟩:=hr;have g:(BA s led).TypeIs (.ref s.heap.objs.size) "set":=⟨_,K8 _ rfl,rfl⟩;have hli:=PySem.F.called_set.init.lookup;have hbi:=PySem.F.called_set.init.bind (.ref s.heap.objs.size)
   repeat (any_goals (first | with_reducible assumption | with_reducible refine q05 ?_ | with_reducible refine q04 ?_ | with_reducible refine q0Y ?_ | with_reducible refine wpAny_of_eq (by assumption) ?_ | with_reducible refine wpAny_isInstance (by assumption) (by assumption) ?_ | with_reducible refine wpAny_specialOf (by assumption) (by assumption) ?_ | with_reducible refine wpAny_call ?_ | ((with_reducible apply wpAny_ite_false);focus (rfl;done)) | wp_delta))
   refine codeAny_mono (hi led g) λd s₂ a=>?_;cases d with
   |error e=>exact a
   |ok fl₂=>
    cases fl₂ with
    |ret r=>
     obtain⟨rfl,h',tk,rfl,i⟩:=a
     repeat (any_goals (first | with_reducible assumption | with_reducible refine q05 ?_ | with_reducible refine q04 ?_ | with_reducible refine q0Y ?_ | with_reducible refine wpAny_of_eq (by assumption) ?_ | with_reducible refine wpAny_isInstance (by assumption) (by assumption) ?_ | with_reducible refine wpAny_specialOf (by assumption) (by assumption) ?_ | with_reducible refine wpAny_call ?_ | ((with_reducible apply wpAny_ite_false);focus (rfl;done)) | wp_delta))
     exact h _ _ i
    |_=>exact a.elim
  |_=>exact hr.elim
theorem qt{x:Str}{t:Tok}{Q:LV}(hh:A.handled=none)(hb:x.cps.size+1<scanBound)
  (h:∀(h':Heap) (tk:Nat),h'.SetOf (strKind prog w) s.heap.objs.size (λk'=>decide (k'∈met (dh x))) (met (dh x)).length ->
   (∀b o,s.heap.get? b=some o->h'.get? b=some o)->Q (.ref s.heap.objs.size) {s with heap:=h',toks:=tk}) :
  wpAny (model prog w) A (call (.type "set") [.str x t]) Q E s:=by
 refine tV (R:=λh' _=>h'.SetOf (strKind prog w) s.heap.objs.size (λk'=>decide (k'∈met (dh x))) (met (dh x)).length/\∀b o,s.heap.get? b=some o->h'.get? b=some o)
  (λa q=>?_) λh' tk hr=>h h' tk hr.1 hr.2
 refine codeAny_call_builtin PySem.F.called_set.init.plain PySem.F.entry_set_init (check_set_init_1 q ?_);unfold BA at q ⊢;have B:(s.heap.push {cls:=.type "set",dict:=none,data:=.set #[] 0 (.fresh 0 0 a)}).get? s.heap.objs.size=some {cls:=.type "set",dict:=none,data:=.set #[] 0 (.fresh 0 0 a)}:=K8 _ rfl;have hsls:=PySem.F.sub_str_set;have hslf:=PySem.F.sub_str_frozenset;have hne:(Value.type "str" == Value.type "dict")=false:=by decide
 unfold Builtin.«set.__init__» noKeywords Builtin.Frozenset.updateFrom;generalize n:pyIter=PI
 wp_walk
 subst n;refine wpAny_pyIter_str λo St W k=>?_;refine q04 (wpAny_runValue ?_);have l:s.heap.objs.size∉[(s.heap.push {cls:=.type "set",dict:=none,data:=.set #[] 0 (.fresh 0 0 a)}).objs.size]:=by
  rw[Heap.size_push];simp only[K4]
  exact Lj (Lx _)
 refine Du (knd:=strKind prog w) ((W _ (by simp[hh])).toS) s.heap.objs.size l (dh x) (by simp[dh])
  (λi v ⟨c,u,z,p⟩=>⟨⟨#[c]⟩,by unfold dh;rw[K5,q0G,z];rfl,by rw[p];exact strKind_is _ _ _ _,by rw[p];rfl⟩) hb (x.cps.size-0) 0 _ ⋯ (Lo _) k ?hS0 ?hR
 case hS0=>
  exact SetOf_congr ((setObjOf_fresh (knd:=strKind prog w) a).setOf (K2 _ B) (by unfold scanBound;omega)) (λ_=>rfl) rfl
 case hR=>
  intro r d m;obtain⟨h',C,J,g,j⟩:=r;have G:C=s.gens:=d.gens;have I:J=s.drawn:=d.drawn;have D:j=s.os:=d.os;subst G;subst I;subst D
  show wpAny _ _ _ _ _ _;refine q05 ?_;show wpAny _ _ (ret Value.none) _ _ _;refine q05 ⟨rfl,h',g,rfl,m,λb y e=>?_⟩;have hb:=Lq e;refine d.heap b y ?_ (K2 _ (K2 _ e));simp only[Lf,List.not_mem_nil,or_false,not_or,Heap.size_push];exact⟨Lj hb,Lj (Nat.lt_succ_of_lt hb)⟩
end
def tQ(t:TE):TE:=λσ H Q=>t σ H λx H1=>∃z,x=.str z/\z.cps.size+1<scanBound/\Q (.int (met (dh z)).length) H1
section
variable {X:Cx}{e:Expr}{t:TE}{p p2 pos pos2:Pos}
theorem zJ(hc:X.calm=true)(ha:PE X e t)(g1:Gl X "len")(m1:X.mg "len"=none)(g2:Gl X "set")(m2:X.mg "set"=none)
  (he1:autoParam (starEach [.Call (.Name "set" p2) [e] [] pos2] X.env=[(false,eval (.Call (.Name "set" p2) [e] [] pos2) X.env)]) zz0._auto_1)
  (he2:autoParam (starEach [e] X.env=[(false,eval e X.env)]) zz0._auto_1) :
  PE X (.Call (.Name "len" p) [.Call (.Name "set" p2) [e] [] pos2] [] pos) (tQ t):=by
 intro a s σ H Q I h;have k:bootBuiltins "len"=some (.builtin "len"):=by decide +kernel
 have i:bootBuiltins "set"=some (.type "set"):=by decide +kernel
 refine wpAny_Call_Name_kw (fo I g1 m1 k ?_);refine PyProof.Rows.callWith_builtin1 ?_ he1 rfl;rw[he1];show wpAny _ _ (spliced [(false,eval (.Call (.Name "set" p2) [e] [] pos2) X.env)]) _ _ _;refine Calls.spliced_cons ?_;refine wpAny_Call_Name_kw (fo (I.tok _) g2 m2 i ?_);refine PyProof.Rows.callWith_type1 ?_ he2 rfl;rw[he2];show wpAny _ _ (spliced [(false,eval e X.env)]) _ _ _;refine Calls.spliced_cons (bT (ha a _ σ H _ (I.tok _) h) λu s1 ⟨x,H1,v,g,z,r,c,q⟩=>Calls.spliced_nil ?_);subst r;obtain⟨tk,rfl⟩:=g;refine qt (I.ok.hd hc) c λh' tk' n l=>Calls.spliced_nil ?_;obtain⟨o,j,b,es,ep,tb,hd,_,_,d,m⟩:=n.objOf;have hle:=AQ z.cps.size (dh z) (by simp[dh]);have hb:z.cps.size<4096:=by unfold scanBound at c;omega
 refine call_len_set j b hd m (by rw[d];have:((4096:Nat):Int)<2^63:=nofun;omega) ?_;rw[d];exact⟨.int _,H1,(v.kept (t':=_) l),⟨_,rfl⟩,q⟩
end
abbrev NT:=List (Str×Addr×List Nat)
def uL(t:NT):List (cP×V):=t.map λx=>(Sum.inr x.1,V.ref x.2.1)
def v4(ns:LY):List V:=ns.map fun(n:Nat)=>V.int (n:Int)
structure cZ(H:Hp)(p:Addr)(t:NT):Prop where
 dict:H p=some (.dK (uL t))
 list:∀x∈t,H x.2.1=some (.lst (v4 x.2.2))
 apart:(t.map (·.2.1)).Nodup
theorem cZ.grow{H':Hp}{t:NT}(N:cZ H p t)(k:∀a o,H a=some o->H' a=some o):cZ H' p t:=⟨k _ _ N.dict,λx hx=>k _ _ (N.list x hx),N.apart⟩
theorem xy(z:Str):∀t:NT,dF (uL t) (.inr z)=(t.find? λx=>decide (x.1=z)).map λx=>V.ref x.2.1
 | []=>rfl
 |x::t=>by
  have ih:=xy z t;unfold uL at ih ⊢;rw[Lu,List.find?_cons]
  by_cases e:x.1=z
  ·rw[gw (by rw[e])];simp[e]
  ·rw[gq (λh=>e (Sum.inr.inj h)),ih];simp[e]
theorem cZ.new{t:NT}(N:cZ H p t)(hl:H l=none)(hz:dF (uL t) (.inr z)=none) :
  cZ (aG (aG H l (.lst [])) p (.dK (du (uL t) (.inr z) (.ref l)))) p (t++[(z,l,[])]):=by
 have d:p≠l:=λe=>by have:=N.dict;rw[e,hl]at this;exact nomatch this
 have c:∀x∈t,x.2.1≠l/\x.2.1≠p:=λx c=>by
  have q:=N.list x c
  constructor
  ·intro e;rw[e,hl]at q;exact nomatch q
  ·intro e;rw[e,N.dict]at q;exact nomatch q
 refine⟨?_,λx h=>?_,?_⟩
 ·rw[af,CH _ hz];unfold uL;rw[Lc];rfl
 ·rcases Ld.mp h with h | h
  ·rw[aq (c x h).2,aq (c x h).1];exact N.list x h
  ·rw[K4.mp h,aq (Ne.symm d),af];rfl
 ·rw[Lc]
  refine List.nodup_append.mpr ⟨N.apart,by simp,λa i b g=>?_⟩;obtain⟨x,h1,rfl⟩:=LK.mp i;rw[List.map_singleton]at g;rw[K4.mp g];exact(c x h1).1
theorem cZ.put{t:NT}{i k:Nat}{x:Str×Addr×List Nat}(N:cZ H p t)(hi:t[i]?=some x) :
  cZ (aG H x.2.1 (.lst (v4 (x.2.2++[k])))) p (t.set i (x.1,x.2.1,x.2.2++[k])):=by
 have l:x∈t:=K6 hi;have g:p≠x.2.1:=λe=>by have:=N.list x l;rw[<- e,N.dict]at this;exact nomatch this
 have a:i<t.length:=(K1.mp hi).1;have m:uL (t.set i (x.1,x.2.1,x.2.2++[k]))=uL t:=by
  unfold uL;apply List.ext_getElem?;intro j;rw[K5,K5,List.getElem?_set]
  by_cases e:i=j
  ·subst e;rw[q07 rfl,q07 a,hi];rfl
  ·rw[q06 e]
 have n:(t.set i (x.1,x.2.1,x.2.2++[k])).map (·.2.1)=t.map (·.2.1):=by
  apply List.ext_getElem?;intro j;rw[K5,K5,List.getElem?_set]
  by_cases e:i=j
  ·subst e;rw[q07 rfl,q07 a,hi];rfl
  ·rw[q06 e]
 refine⟨by rw[aq g,m];exact N.dict,λy d=>?_,by rw[n];exact N.apart⟩;obtain⟨j,b⟩:=List.mem_iff_getElem?.mp d;rw[List.getElem?_set]at b
 by_cases e:i=j
 ·rw[q07 e,q07 a]at b
  cases b;exact af
 ·rw[q06 e]at b
  have c:y.2.1≠x.2.1:=by
   intro q;have h1:(t.map (·.2.1))[i]?=some x.2.1:=by rw[K5,hi];rfl
   have h2:(t.map (·.2.1))[j]?=some x.2.1:=by rw[K5,b];simp[q]
   exact e ((List.getElem?_inj (K1.mp h1).1 N.apart).mp (h1.trans h2.symm))
  rw[aq c];exact N.list y (K6 b)
def iz(t:NT):List (Str×List Nat):=t.map λx=>(x.1,x.2.2)
def bX(m:List (Str×List Nat))(z:Str):List (Str×List Nat):=if z∈m.map (·.1) then m else m++[(z,[])]
theorem A_{t:NT}{v:V}(h:dF (uL t) (.inr z)=some v):∃(i:Nat) (x:Str×Addr×List Nat),t[i]?=some x/\x.1=z/\v=.ref x.2.1:=by
 rw[xy]at h;cases a:t.find? (λx=>decide (x.1=z)) with
 |none=>rw[a]at h;exact nomatch h
 |some x=>
  rw[a]at h;have c:V.ref x.2.1=v:=q0S h;obtain⟨i,d⟩:=List.mem_iff_getElem?.mp (List.mem_of_find?_eq_some a);have b:=List.find?_some a;exact⟨i,x,d,of_decide_eq_true b,c.symm⟩
theorem yk(t:NT):(iz t).map (·.1)=t.map (·.1):=by unfold iz;rw[Le];rfl
theorem FS{t:NT}(h:dF (uL t) (.inr z)=none):¬ z∈(iz t).map (·.1):=by
 intro m;rw[yk]at m;obtain⟨x,a,e⟩:=LK.mp m;refine AJ h (LK.mpr ⟨(.inr x.1,.ref x.2.1),LK.mpr ⟨x,a,rfl⟩,?_⟩);show(Sum.inr x.1:cP)=Sum.inr z;rw[e]
theorem cZ.setdef{t:NT}{z:Str}{Q:VK}(N:cZ H p t)(hl:H l=none)(hn:t.length<sizeLine)
  (h:∀(H':Hp) (t':NT) (i:Nat) (x:Str×Addr×List Nat),cZ H' p t'->t'[i]?=some x->x.1=z->iz t'=bX (iz t) z->(∀y∈t',y∈t\/y.2.1=l)->(∀a o,a≠p->H a=some o->H' a=some o)->Q (.ref x.2.1) H') :
  ∃kvs k,aG H l (.lst []) p=some (.dK kvs)/\V.str z=kV k/\kvs.length<sizeLine/\(∀v,dF kvs k=some v->Q v (aG H l (.lst []))) /\
   (dF kvs k=none->Q (.ref l) (aG (aG H l (.lst [])) p (.dK (du kvs k (.ref l))))):=by
 have hpl:p≠l:=λe=>by have:=N.dict;rw[e,hl]at this;exact nomatch this
 have b:∀a o,H a=some o->aG H l (.lst []) a=some o:=λa o e=>by
  rw[aq (λq=>by rw[q,hl]at e;exact nomatch e)];exact e
 refine⟨uL t,.inr z,b _ _ N.dict,rfl,by unfold uL;rw[K3];exact hn,λv m=>?_,λd=>?_⟩
 ·obtain⟨i,x,j,g,rfl⟩:=A_ m
  refine h _ t i x (N.grow b) j g ?_ (λy c=>.inl c) λa o _ e=>b a o e;have n:z∈(iz t).map (·.1):=by rw[yk];exact LK.mpr ⟨x,K6 j,g⟩
  unfold bX;rw[q07 n]
 ·refine h _ (t++[(z,l,[])]) t.length (z,l,[]) (N.new hl d) (by simp) rfl ?_ (λy c=>(Ld.mp c).imp id λq=>by rw[K4.mp q]) λa o r e=>by rw[aq r];exact b a o e
  unfold bX;rw[q06 (FS d)];unfold iz;rw[Lc];rfl
theorem D7{t:NT}{x:Str×Addr×List Nat}(k:Nat):iz (t.set i (x.1,x.2.1,x.2.2++[k]))=(iz t).set i (x.1,x.2.2++[k]):=by
 unfold iz;rw[List.map_set]
theorem ku{m:List (Str×List Nat)}(h:(m.map (·.1)).Nodup):((bX m z).map (·.1)).Nodup:=by
 unfold bX
 by_cases e:z∈m.map (·.1)
 ·rw[q07 e];exact h
 ·rw[q06 e,Lc]
  refine List.nodup_append.mpr ⟨h,by simp,λa d b c=>?_⟩;rw[List.map_singleton]at c;rw[K4.mp c];exact λq=>e ((show a=z from q)▸d)
theorem xZ{X:Cx}{e:Expr}{t:TA}{x:Str}{j:Nat}{p apos cpos:Pos}(ha:PA X [e] t)(hline:(apos.endLine==cpos.line)=true)(hs:starEach [e] X.env=[(false,eval e X.env)]) :
  PE X (.Call (.Attribute (.Constant (.str x) j p) "join" apos) [e] [] cpos) (G1 X.K "str" (yi X.K) (tC (.str x)) t):=
 gt PySem.F.plainAttrs_str PySem.F.slot_str_join PySem.F.type_str_join Ec iE ha rfl (by rw[hs];rfl) hline hs rfl
end L2
namespace L2
open PySem PySem.Spec PyProof.Rows
set_option tactic.hygienic true in
theorem sZ.out{K:LW}{bm:L4}{nid:String}(c:sZ K C bm nid):pT K C bm nid:=by
 refine⟨?_⟩;have q:=c.exc;unfold PySem.W.excIn at q;unfold PySem.W.excOut
 revert q
 cases K.lookup C with
 |none=>exact λq=>q
 |some ob=>
  obtain⟨ty,dd,data,sl⟩:=ob;intro q
  split at q
  ·rename_i e
   cases e
   split at q
   ·rename_i hm hs
    simp only[hm,hs];simp only[q0O]at q ⊢;obtain⟨⟨⟨⟨⟨a1,a2⟩,a3⟩,a4⟩,a5⟩,_⟩:=q;exact⟨⟨⟨⟨a1,a2⟩,a3⟩,a4⟩,a5⟩
   ·cases q
  ·cases q
section
variable {X:Cx}{e:Expr}{tx:TX}{i:Nat}{n x:Str}{D:Addr}{bmD:L4}{nD:String}{b₀:Stmt}{suite:List Stmt}{epos pos hpos np:Pos}{ts:Addr->TS}
def tO(K:LW)(D:Addr)(tx:TX)(i:Nat)(ts:Addr->TS):TS:=λDe σ H=>
 tx σ H (λ_ H1=>De.nx σ H1) (λcls od H'=>∃C bm nid,cls=.ref C/\pT K C bm nid/\vW K C D/\∀ea,H' ea=none ->
  ts ea {nx:=λσ2 H2=>De.nx (σ2.set i none) H2,rt:=De.rt,bk:=λσ2 H2=>De.bk (σ2.set i none) H2,ct:=λσ2 H2=>De.ct (σ2.set i none) H2} (σ.set i (some (.ref ea))) (aG H' ea (xo ea (.ref C) od)))
theorem xJ{cp:Value->Prop}(hN:X.N.Nodup)(hst:X.stack=X.env::X.outer)(hfr:X.env.frame=some X.env.locals)(he:PX (GM cp X.prog X.w) X e tx)(hi:X.N[i]?=some n)(hk:X.env.kindOf n=some .local)(hgl:Gl X x)(hm:X.mg x=some (.ref D))(cD:pT X.K D bmD nD)
  (hbase:bmD.contains (.type "BaseException")=true) (hs:∀ea,ux (X.held ea) (b₀::suite) (ts ea))
  (hd:autoParam ((x==("__debug__":Str))=false) zz2._auto_1) (hsw:autoParam (swapsWith e none epos.line X.env=pure false) zz0._auto_1) :
  PS X (.Try [.Expr e epos] [.ExceptHandler (some (.Name x np)) (some n) (b₀::suite) hpos] [] [] pos) (tO X.K D tx i ts):=by
 intro a s σ H De I h;refine wpAny_Try_except ?_;refine wpAny_execs_cons (wpAny_Expr_any ?_ I.quiet hsw);refine bT (he a s σ H _ _ _ I h ?_) λv s1 ⟨y,H1,z,r1,q1⟩=>?_
 ·rintro H1 s1 ev s' z ⟨ea,cls,od,B,H',rfl,g,O,C,bm,nid,rfl,cC,un,L⟩
  have S:iw cp B (X.env::X.outer) ea (.ref C) od .none s'.heap:=by rw[<- hst];exact g.fl
  refine Er (by rw[I.ok.frames,hst]) hfr S λh4 d o=>?_;refine m9 d λh5 j m=>?_;have Y:=z.caught g.toFly0 (by rw[hst];exact j) (o.trans m) O;refine wpAny_handleBy_cons (codeAny_handlers_test ?_) (by intro q;cases q);refine g_ (Y.held ea) hgl hm ?_ hd;obtain⟨tl,N,nm,q,bs,hdct,sn,sub,ab,col,dd,k0,k1,k2,k3,k5,hC,T,dd1,cd1,sl1,R,r⟩:=cC.obj Y.kIn;obtain⟨tl',N',nm',q',bs',hdct',sn',sub',ab',col',dd',k0',k1',k2',k3',k5',hD,TD,_⟩:=cD.obj Y.kIn;obtain⟨dd2,cd2,sl2,c,b⟩:=un;rw[R]at c;cases c;rw[r]at b;obtain⟨ob,_,M,p,_⟩:=j.there;refine lu hC hD M p (TD.hasType hbase) b (codeAny_handlers_suite_as ?_);refine m9 j λh6 U G=>?_;have J6:=z.caught g.toFly0 (by rw[hst];exact U) ((o.trans m).trans G) O;refine kr (v:=.ref ea) J6 hN hi (.inl hk) rfl (λZ J7=>?_) (.inr hk);refine q0X (hs ea a Z _ _ _ (J7.held ea) (L ea O)) (λfl s8 w=>?_) λ_ _ f=>f.elim;cases fl with
  |next=>obtain⟨σ',H2,l,q⟩:=w;exact i6 (v:=.non) (l.unheld I.ok.hd) hN hi hk λJ k=>⟨_,_,k,q⟩
  |brk=>obtain⟨σ',H2,l,q⟩:=w;exact i6 (v:=.non) (l.unheld I.ok.hd) hN hi hk λJ k=>⟨_,_,k,q⟩
  |cont=>obtain⟨σ',H2,l,q⟩:=w;exact i6 (v:=.non) (l.unheld I.ok.hd) hN hi hk λJ k=>⟨_,_,k,q⟩
  |ret u=>obtain⟨v,σ',H2,l,rv,q⟩:=w;exact i6 (v:=.non) (l.unheld I.ok.hd) hN hi hk λJ k=>⟨v,_,_,k,rv,q⟩
 ·exact wpAny_execs_nil (wpAny_execs_nil ⟨σ,H1,z,q1⟩)
end
section
variable {X:Cx}{CX:iy}{k:Nat}{C:Addr}{ps:L9}{sp:Sp}{m:Str}{pos apos:Pos}{e o:Expr}{es:Md}{t:TA}{ta:TE}
theorem qi{K:LW}(hK:X.K=K):bD X (compareOp .NotIn) (Ir K true):=hK▸rS
end
end L2
namespace L2
open PySem PySem.Spec PyProof.Rows QL
section
variable {K:LW}{g:TG}{ti:TT}{te:TE}{σ:St}{H:Hp}{Q:List V->Hp->Prop}{α:Type}
theorem m8{as:List α}{f:α->Option V}{i:Nat}{x:α}(hx:as[i]?=some x):(as.take (i+1)).filterMap f=(as.take i).filterMap f++(f x).toList:=by
 rw[q0E,hx,List.filterMap_append];show _++List.filterMap f [x]=_;cases h:f x<;>simp[h]
theorem BZ{as:List α}{f:α->Option V}(i:Nat):((as.take i).filterMap f).length<=as.length:=Lv (List.length_filterMap_le _ _) (by rw[LC];omega)
theorem yx{as:List α}(f:α->V):as.filterMap (λx=>some (f x))=as.map f:=by induction as with | nil=>rfl | cons x xs ih=>simp
theorem jC{as:List α}{emb:α->V}{f:α->Option V}(S:St->Prop)(h0:S σ)(hl:∀H',aA H H'->aR K H' a (as.map emb))(hn:as.length<=1000000)
  (hs:∀(i:Nat) x,as[i]?=some x->∀σ H' (N1:V->St->Hp->Prop) (N0:St->Hp->Prop),S σ->aA H H'->(∀v σ2 H2,f x=some v->aA H H2->S σ2->N1 v σ2 H2)->(∀σ2 H2,f x=none->aA H H2->S σ2->N0 σ2 H2) ->
   g (emb x) σ H' λσ2 H3=>ti σ2 H3 λb H4=>if b=true then te σ2 H4 λv H5=>N1 v σ2 H5 else N0 σ2 H4)
  (he:∀H',aA H H'->Q (as.filterMap f) H'):gl (zT K a) g ti te σ H Q:=by
 refine c_ (xs:=as.map emb) (λi c σ H'=>aA H H'/\c=(as.take i).filterMap f/\i<=as.length/\S σ) ⟨λ_ _ e=>e,rfl,Lo _,h0⟩ ?_ ?_ ?_ ?_ ?_
 ·rintro i c σ H' ⟨_,rfl,_⟩
  have:=BZ (as:=as) (f:=f) i;exact bj ⋯
 ·rintro i c σ H' ⟨_,_,h,_⟩
  rw[K3];exact h
 ·rintro i c σ H' ⟨j,_⟩
  exact hl _ j
 ·rintro i x c σ H' k ⟨j,rfl,hi,m⟩
  have d:i<as.length:=by have:=(K1.mp k).1;rwa [K3]at this
  rw[K5,K0 d]at k;cases k;have l:as[i]?=some as[i]:=K0 d;refine hs i as[i] l σ H' (λv σ2 H5=>_) (λσ2 H4=>_) m j (λv σ2 H2 hf s2 hS2=>⟨s2,?_,d,hS2⟩) (λσ2 H2 hf s2 hS2=>⟨s2,?_,d,hS2⟩)
  ·rw[m8 l,hf];rfl
  ·rw[m8 l,hf];simp
 ·rintro c σ H' ⟨j,rfl,_⟩
  have e:(as.take (as.map emb).length).filterMap f=as.filterMap f:=by rw[K3,LB]
  rw[e];exact he _ j
theorem wZ{as:List α}{emb:α->V}{f:Nat->α->Option V}(S:St->Prop)(h0:S σ)(hl:∀H',aA H H'->aR K H' a (as.map emb))(hn:as.length<=1000000)
  (hs:∀(i:Nat) x,as[i]?=some x->∀σ H' T (N1:V->St->Hp->Prop) (N0:St->Hp->Prop),S σ->aA H H'->H' T=none->(∀v σ2 H2,f i x=some v->aA H H2->S σ2->N1 v σ2 H2)->(∀σ2 H2,f i x=none->aA H H2->S σ2->N0 σ2 H2) ->
   g (.ref T) σ (aG H' T (.tup [.int (i:Int),emb x])) λσ2 H3=>ti σ2 H3 λb H4=>if b=true then te σ2 H4 λv H5=>N1 v σ2 H5 else N0 σ2 H4)
  (he:∀H',aA H H'->Q (as.zipIdx.filterMap λx=>f x.2 x.1) H'):gl (GG K a) g ti te σ H Q:=by
 have l:as.zipIdx.length=as.length:=List.length_zipIdx;refine km (J:=GG K a) (n:=as.length) (λi c σ H'=>aA H H'/\c=(as.zipIdx.take i).filterMap (λx=>f x.2 x.1)/\i<=as.length/\S σ) ⟨λ_ _ e=>e,rfl,Lo _,h0⟩ ?_ ?_ ?_ ?_ ?_ ?_
 ·rintro i c σ H' ⟨_,rfl,_⟩
  have:=BZ (as:=as.zipIdx) (f:=λx=>f x.2 x.1) i;exact bj ⋯
 ·rintro i c σ H' ⟨_,_,h,_⟩
  exact h
 ·rintro c σ H' ⟨j,_⟩
  exact⟨_,hl _ j,by rw[K3];exact Ln _⟩
 ·rintro i c σ H' d ⟨j,_⟩
  exact⟨_,emb as[i],hl _ j,by rw[K5,K0 d];rfl⟩
 ·rintro i x c σ H' H2 d ⟨j,rfl,hi,q⟩ ⟨T,y,rfl,p,rfl,k⟩
  have m:as[i]?=some as[i]:=K0 d;have k:=k _ (hl _ j);rw[K5,m]at k;cases k;have o:as.zipIdx[i]?=some (as[i],i):=by rw[List.getElem?_zipIdx,m];simp
  refine hs i as[i] m σ H' T (λv σ2 H5=>_) (λσ2 H4=>_) q j p (λv σ2 H2 hf s2 hS2=>⟨s2,?_,d,hS2⟩) (λσ2 H2 hf s2 hS2=>⟨s2,?_,d,hS2⟩)
  ·rw[m8 o];simp only[hf];rfl
  ·rw[m8 o];simp[hf]
 ·rintro c σ H' ⟨j,rfl,_⟩
  have e:(as.zipIdx.take as.length).filterMap (λx=>f x.2 x.1)=as.zipIdx.filterMap (λx=>f x.2 x.1):=by rw[<- l,LB]
  rw[e];exact he _ j
theorem iF{n:Nat}{f:Nat->Option V}(S:St->Prop)(h0:S σ)(hn:n<=1000000)
  (hs:∀i,i<n->∀σ H' (N1:V->St->Hp->Prop) (N0:St->Hp->Prop),S σ->aA H H'->(∀v σ2 H2,f i=some v->aA H H2->S σ2->N1 v σ2 H2)->(∀σ2 H2,f i=none->aA H H2->S σ2->N0 σ2 H2) ->
   g (.int (0+(i:Int))) σ H' λσ2 H3=>ti σ2 H3 λb H4=>if b=true then te σ2 H4 λv H5=>N1 v σ2 H5 else N0 σ2 H4)
  (he:∀H',aA H H'->Q ((List.range n).filterMap f) H'):gl (Ao 0 n) g ti te σ H Q:=by
 refine jV (lo:=0) (n:=n) (λi a σ H'=>aA H H'/\a=(List.range i).filterMap f/\i<=n/\S σ) ⟨λ_ _ e=>e,rfl,Lo _,h0⟩ ?_ ?_ ?_ ?_
 ·rintro i a σ H' ⟨_,rfl,c,_⟩
  have:=List.length_filterMap_le f (List.range i);rw[q0J]at this;exact bj ⋯
 ·rintro i a σ H' ⟨_,_,h,_⟩
  exact h
 ·rintro i a σ H' c ⟨d,rfl,_,j⟩
  refine hs i c σ H' (λv σ2 H5=>_) (λσ2 H4=>_) j d (λv σ2 H2 hf s2 hS2=>⟨s2,?_,c,hS2⟩) (λσ2 H2 hf s2 hS2=>⟨s2,?_,c,hS2⟩)
  ·rw[q0M,List.filterMap_append];simp[hf]
  ·rw[q0M,List.filterMap_append];simp[hf]
 ·rintro a σ H' ⟨d,rfl,_⟩
  exact he _ d
end
end L2
namespace ThM
open PySem L2
def addNew(ks:L9)(z:Str):List Str:=if z∈ks then ks else ks++[z]
theorem mem_addNew{ks:L9}{y:Str}:y∈addNew ks z↔y∈ks\/y=z:=by
 unfold addNew
 split
 ·rename_i h
  exact⟨.inl,λq=>q.elim id λe=>e▸h⟩
 ·rw[Ld,K4]
def trueD(zs:L9):List (cP×V):=zs.map λz=>(Sum.inr z,V.bl true)
theorem trueD_val(z:Str):∀zs:List Str,(dF (trueD zs) (.inr z)).isSome=decide (z∈zs)
 | []=>rfl
 |y::zs=>by
  have ih:=trueD_val z zs;unfold trueD at ih ⊢;rw[Lu]
  by_cases e:y=z
  ·rw[gw (by rw[e])]
   simp[e]
  ·rw[gq (λq=>e (Sum.inr.inj q)),ih]
   have:¬ z=y:=λq=>e q.symm;simp[this]
theorem trueD_put(zs:L9)(z:Str):du (trueD zs) (.inr z) (V.bl true)=trueD (addNew zs z):=by
 unfold du;rw[gz,trueD_val];unfold addNew
 by_cases h:z∈zs
 ·rw[q09 h,q07 rfl,q07 h]
  unfold trueD;rw[Le];refine q0K λy _=>?_;show(if(Sum.inr y:cP)=Sum.inr z then _ else _)=_
  split<;>rfl
 ·rw[q08 h,q06 nofun,q06 h]
  unfold trueD;rw[Lc];rfl
theorem trueD_len(zs:L9):(trueD zs).length=zs.length:=by unfold trueD;rw[K3]
section
variable {α:Type}(f:List α->List α)
def Ho:Nat->List α->List α
 |0,s=>s
 |n+1,s=>f (Ho n s)
variable {f}
end
abbrev NR:=Str×List Str
def Dd(ks:L9)(r:NR):List Str:=if(∀z∈r.2,z∈ks) then addNew ks r.1 else ks
def Cr(rs:List NR)(ks:L9):List Str:=rs.foldl Dd ks
theorem nd_len{ks ms:L9}(hn:ks.Nodup)(h:∀z∈ks,z∈ms):ks.length<=ms.length:=by
 induction ks generalizing ms with
 |nil=>exact Lo _
 |cons k ks ih=>
  rw[q0c]at hn;have c:=h k q0B;have h1:=ih (ms:=ms.erase k) hn.2 λz b=>by
   have a:z≠k:=λe=>hn.1 (e▸b);exact(List.mem_erase_of_ne a).mpr (h z (Lg _ b))
  have h2:=List.length_erase_of_mem c;have h3:=List.length_pos_of_mem c;rw[Lb];omega
def Fc(rs:List NR):List Str:=Ho (Cr rs) rs.length []
end ThM
namespace ThM
open PySem L2
theorem kt{y:Str}:∀(zs ks:L9),y∈zs.foldl addNew ks↔y∈ks\/y∈zs
 | [],ks=>by simp
 |z::zs,ks=>by
  rw[List.foldl_cons,kt zs,mem_addNew,Lf];exact⟨λh=>h.elim (λh=>h.elim .inl λe=>.inr (.inl e)) λh=>.inr (.inr h),λh=>h.elim (λh=>.inl (.inl h)) λh=>h.elim (λe=>.inl (.inr e)) .inr⟩
def BT(ks:L9)(r:NR):List Str:=if r.1∈ks then r.2.foldl addNew ks else ks
def Aa(rs:List NR)(ks:L9):List Str:=rs.foldl BT ks
def GW(ks:L9)(r:NR):Prop:=r.1∈ks/\∀z∈r.2,z∈ks
noncomputable instance (ks:L9)(r:NR):Decidable (GW ks r):=by unfold GW;infer_instance
def FG(st:Str)(rs:List NR):List Str:=Ho (Aa rs) rs.length [st]
def EC(rs:List NR)(r:NR):Bool:=decide (∀z∈r.2,z∈Fc rs)
def Ht(rs:List NR):List NR:=rs.filter (EC rs)
def HE(st:Str)(rs:List NR):List Str:=FG st (Ht rs)
def keep(st:Str)(rs:List NR)(r:NR):Bool:=decide (r.1∈HE st rs)&&EC rs r
end ThM
namespace L2
open PySem PySem.Spec PyProof.Rows
section
variable {X:Cx}{body:List Stmt}{h₀:ExceptHandler}{hs:List ExceptHandler}{tb:TS}{pos:Pos}
theorem nu{ta:TE}{f:Str}{K:LW}(hK:X.K=K)(he:PE X e ta)(hb:attributeBase e f X.env (eval e X.env)=eval e X.env):PE X (.Attribute e f pos) (yT K ta f):=hK▸wm he hb
end
section
variable {X:Cx}{es:Md}{t:TA}{te:TE}
end
end L2
namespace L2
open PySem PySem.Spec PyProof.Rows
end L2
namespace L2
open PySem PySem.Spec PyProof.Rows QL
def EX(H H':Hp):Prop:=∀b xs,H b=some (.tup xs)->H' b=some (.tup xs)
end L2
namespace L2
open PySem PySem.Spec PyProof.Rows QL aJ
theorem HQ{P:Addr->Prop}:(∃p,V.ref a=V.ref p/\P p)=P a:=by simp
theorem HB{a:Int}{P:Int->Prop}:(∃p,V.int a=V.int p/\P p)=P a:=by simp
theorem HK{P:Bool->Prop}:(∃p,V.bl a=V.bl p/\P p)=P a:=by simp
theorem Hm{P:Str->Prop}:(∃p,V.str a=V.str p/\P p)=P a:=by simp
theorem HD{α:Type}{P:Addr->α->Prop}:(∃p,∃x,V.ref a=V.ref p/\P p x) = ∃x,P a x:=by simp
theorem HH{α:Type}{P:Addr->α->Prop}:(∃p,∃x,[V.ref a]=[V.ref p]/\P p x) = ∃x,P a x:=by simp
theorem HW{α:Type}{v:V}{P:Addr->α->V->Prop}:(∃p,∃x,∃y,V.ref a=V.ref p/\[v]=[y]/\P p x y) = ∃x,P a x v:=by simp
theorem HL{α β:Type}{P:Addr->Addr->α->β->Prop}:(∃p,∃q,∃x,∃y,V.ref a=V.ref p/\V.ref b=V.ref q/\P p q x y) = ∃x,∃y,P a b x y:=by simp
def G8(i:Nat):TE:=λσ H Q=>match σ[i]? with
 |some (some v)=>Q v H
 |_=>False
def DA(g:Int->Int->V):R2
 | .int i,.int j,H,Q=>Q (g i j) H
 |x,y,H,Q=>Al g x y H Q
def He(C:Int->Int->Prop)(g:Int->Int->V):R2
 | .int i,.int j,H,Q=>C i j/\Q (g i j) H
 |x,y,H,Q=>rI C g x y H Q
def vE(K:LW):R2
 | .ref p,.int i,H,Q=>∃xs,aR K H p xs/\∃v,pJ xs i=some v/\Q v H
 |x,y,H,Q=>yL K x y H Q
def uG(K:LW):R2
 | .ref p,.int i,H,Q=>∃xs,gG K H p xs/\∃v,pJ xs i=some v/\Q v H
 |x,y,H,Q=>zF K x y H Q
theorem CW:DA g x y H Q=Al g x y H Q:=by
 unfold DA;split
 ·simp[Al]
 ·rfl
theorem Eu:He C g x y H Q=rI C g x y H Q:=by
 unfold He;split
 ·simp[rI]
 ·rfl
theorem yl{K:LW}:vE K x y H Q=yL K x y H Q:=by
 unfold vE;split
 ·simp[yL]
 ·rfl
theorem yb{K:LW}:uG K x y H Q=zF K x y H Q:=by
 unfold uG;split
 ·simp[zF]
 ·rfl
theorem Dr{i j:Int}{H:Hp}:DA g (.int i) (.int j) H Q=Q (g i j) H:=rfl
theorem FA{i j:Int}{H:Hp}:He C g (.int i) (.int j) H Q=(C i j/\Q (g i j) H):=rfl
theorem AA{K:LW}{i:Int}{H:Hp}:vE K (.ref p) (.int i) H Q = ∃xs,aR K H p xs/\∃v,pJ xs i=some v/\Q v H:=rfl
theorem Br{K:LW}{i:Int}{H:Hp}:uG K (.ref p) (.int i) H Q = ∃xs,gG K H p xs/\∃v,pJ xs i=some v/\Q v H:=rfl
theorem JY{α β:Type}{f:α->β}{a:α}{l:List α}:List.map f (a::l)=f a::List.map f l:=rfl
theorem ID{α β:Type}{f:α->β}:List.map f []=[]:=rfl
theorem Kc{α:Type}{a:α}{l m:List α}:(a::l)++m=a::(l++m):=rfl
theorem Kw{α:Type}{m:List α}:[]++m=m:=rfl
theorem Js{α:Type}{a:α}{l:List α}:(a::l)[0]?=some a:=rfl
theorem IQ{α:Type}{a:α}{l:List α}{n:Nat}:(a::l)[n+1]?=l[n]?:=rfl
theorem JT{α:Type}{a b:α}{l:List α}:(a::l).set 0 b=b::l:=rfl
theorem JO{α:Type}{a b:α}{l:List α}{n:Nat}:(a::l).set (n+1) b=a::l.set n b:=rfl
section
variable {X:Cx}
theorem am(i:Nat){x:Str}{pos:Pos}(hN:autoParam (X.N[i]?=some x) zz0._auto_1)(hv:autoParam (Hg X.env.scope x) zz6._auto_1)(hd:autoParam ((x==("__debug__":Str))=false) zz1._auto_1)
  (hc:autoParam ((x==("__classdict__":Str))=false) zz1._auto_1):PE X (.Name x pos) (G8 i):=λpins s σ H Q I h=>pv i hN hv hd hc pins s σ H Q I (by
 unfold G8 at h
 split at h
 ·exact⟨_,‹_›,h⟩
 ·exact h.elim)
theorem bD.m0{f:Value->Value->Sem Value}(h:bD X f (Al g)):bD X f (DA g):=λpins s σ H x y v u Q I a b c=>h pins s σ H x y v u Q I a b (CW▸c)
theorem bD.m1{f:Value->Value->Sem Value}(h:bD X f (rI C g)):bD X f (He C g):=λpins s σ H x y v u Q I a b c=>h pins s σ H x y v u Q I a b (Eu▸c)
theorem bS:F9 X (vE X.K):=λe sl pins s σ H x y v u Q I a b c d=>yo e sl pins s σ H x y v u Q I a b (yl▸c) d
theorem bi:F9 X (uG X.K):=λe sl pins s σ H x y v u Q I a b c d=>FW e sl pins s σ H x y v u Q I a b (yb▸c) d
end
inductive TrD:Dt->Prop
 |mk (i:Int) (ds:List Dt):(∀d∈ds,TrD d)->TrD (.tup (.int i::ds))
section
variable {β:Type}{A:Hp->Addr->β->Prop}
def aM(A:Hp->Addr->β->Prop)(H:Hp)(bs:L5)(ys:List β):Prop:=bs.length=ys.length/\∀(i:Nat) b y,bs[i]?=some b->ys[i]?=some y->A H b y
def kG(A:Hp->Addr->β->Prop)(H:Hp)(l:Addr)(ys:List β):Prop:=∃bs:List Addr,H l=some (.lst (bs.map V.ref))/\aM A H bs ys
theorem aM.nil:aM A H [] []:=⟨rfl,λi b y e=>by simp at e⟩
theorem aM.mono{A':Hp->Addr->β->Prop}{bs:L5}{ys:List β}(h:aM A H bs ys)(u:∀b y,b∈bs->y∈ys->A H b y->A' H' b y):aM A' H' bs ys:=⟨h.1,λi b y e1 e2=>u b y (K6 e1) (K6 e2) (h.2 i b y e1 e2)⟩
theorem aM.snoc{bs:L5}{ys:List β}{y:β}(h:aM A H bs ys)(e:A H b y):aM A H (bs++[b]) (ys++[y]):=by
 refine⟨by rw[Lm,Lm,h.1];rfl,λi c z a d=>?_⟩
 by_cases g:i<bs.length
 ·rw[Ll g]at a
  rw[Ll (by rw[<- h.1];exact g)]at d;exact h.2 i c z a d
 ·have ol:i=bs.length:=by
   have:=(K1.mp a).1;simp at this;omega
  subst ol;rw[Lk (Ln _),Nat.sub_self]at a;rw[h.1,Lk (Ln _),Nat.sub_self]at d;cases a;cases d
  exact e
theorem aM.get{bs:L5}{ys:List β}{i:Nat}{b:Addr}(h:aM A H bs ys)(e:bs[i]?=some b):∃y,ys[i]?=some y/\A H b y:=by
 have c:=(K1.mp e).1;have a:ys[i]?=some (ys[i]'(by rw[<- h.1];exact c)):=K0 _;exact⟨_,a,h.2 i b _ e a⟩
theorem aM.one{H:Hp}{b:Addr}{y:β}(e:A H b y):aM A H [b] [y]:=aM.nil.snoc e
theorem aM.two{H:Hp}{b c:Addr}{y z:β}(e:A H b y)(e2:A H c z):aM A H [b,c] [y,z]:=(aM.one e).snoc e2
theorem aM.zip{bs:L5}{ys:List β}(h:aM A H bs ys):bs.map V.ref=(bs.zip ys).map λx=>V.ref x.1:=by
 have e:=Le (f:=Prod.fst) (g:=V.ref) (l:=bs.zip ys);rw[List.map_fst_zip (by rw[h.1];exact Ln _)]at e;exact e
theorem aM.at{bs:L5}{ys:List β}(h:aM A H bs ys){i:Nat}{x:Addr×β}(e:(bs.zip ys)[i]?=some x):ys[i]?=some x.2/\A H x.1 x.2:=by
 obtain⟨b,y⟩:=x;obtain⟨c,a⟩:=List.getElem?_zip_eq_some.mp e;exact⟨a,h.2 i b y c a⟩
end
section
variable {K:LW}{g:TG}{ti:TT}{te:TE}{σ:St}{H:Hp}{Q:List V->Hp->Prop}{α β:Type}
theorem g8(A:Hp->Addr->β->Prop)(up:∀{H H':Hp} {b:Addr} {y:β},A H b y->aA H H'->A H' b y){a:Addr}{as:List α}{emb:α->V}{ys:List β}(hlen:as.length=ys.length)(S:St->Prop)(h0:S σ)(hl:∀H',aA H H'->aR K H' a (as.map emb))(hn:as.length<=1000000)
  (hs:∀(i:Nat) x y,as[i]?=some x->ys[i]?=some y->∀σ H' (N1:V->St->Hp->Prop) (N0:St->Hp->Prop),S σ->aA H H'->(∀b σ2 H2,A H2 b y->aA H H2->aA H' H2->S σ2->N1 (.ref b) σ2 H2) ->
   g (emb x) σ H' λσ2 H3=>ti σ2 H3 λb H4=>if b=true then te σ2 H4 λv H5=>N1 v σ2 H5 else N0 σ2 H4)
  (he:∀bs H',aA H H'->aM A H' bs ys->Q (bs.map V.ref) H'):gl (zT K a) g ti te σ H Q:=by
 refine c_ (xs:=as.map emb) (λi c σ H'=>aA H H'/\(∃bs:List Addr,c=bs.map V.ref/\aM A H' bs (ys.take i))/\i<=as.length/\S σ) ⟨λ_ _ e=>e,⟨[],rfl,aM.nil⟩,Lo _,h0⟩ ?_ ?_ ?_ ?_ ?_
 ·rintro i c σ H' ⟨_,⟨bs,rfl,h⟩,_⟩
  have:=h.1;rw[LC]at this;rw[K3];exact bj ⋯
 ·rintro i c σ H' ⟨_,_,h,_⟩
  rw[K3];exact h
 ·rintro i c σ H' ⟨j,_⟩
  exact hl _ j
 ·rintro i x c σ H' l ⟨j,⟨bs,rfl,k⟩,hi,n⟩
  have d:i<as.length:=by have:=(K1.mp l).1;rwa [K3]at this
  rw[K5,K0 d]at l;cases l;have m:ys[i]?=some (ys[i]'⋯):=K0 ⋯;refine hs i as[i] _ (K0 d) m σ H' (λv σ2 H5=>_) (λσ2 H4=>_) n j (λb σ2 H2 hA s2 s3 hS2=>⟨s2,⟨bs++[b],by rw[Lc];rfl,?_⟩,d,hS2⟩)
  ·rw[q0E,m]
   exact(k.mono λb y _ _ h=>up h s3).snoc hA
 ·rintro c σ H' ⟨j,⟨bs,rfl,k⟩,_⟩
  have e:ys.take (as.map emb).length=ys:=by rw[K3,hlen,LB]
  rw[e]at k;exact he _ _ j k
end
end L2
namespace L2
open PySem PySem.Spec PyProof.Rows QL PySem.Builtin
section
variable {X:Cx}
def wc(z:Str):Value->Bool
 | .str y _=>y.cps.toList==z.cps.toList
 |_=>false
theorem DS{t:Tok}(h:wc z (.str y t)=true):y=z:=by
 have h1:y.cps.toList=z.cps.toList:=by simpa[wc]using h
 cases y;cases z
 simp only[Str.mk.injEq];exact Array.toList_inj.mp h1
def rR:V->List V->Hp->VK->Prop:=λx vs H Q=>∃(l:Addr) (ts:L9) (z:Str) (j:Nat),x=.ref l/\vs=[.str z]/\H l=some (.lst (ts.map V.str))/\ts[j]?=some z/\(∀m y,m<j->ts[m]?=some y->y≠z)/\Q (.int (j:Int)) H
theorem zd:Hh X "list.index" rR:=by
 intro pins s σ H x vs v us Q I rx rv h;obtain⟨l,c,z,j,rfl,rfl,J,G,B,q⟩:=h;cases rx;obtain⟨u,rfl,M⟩:=rv.one;obtain⟨t,rfl⟩:=M;obtain⟨L,b,n,r,S,e⟩:=I.lstM J;have hjl:j<c.length:=(K1.mp G).1;have k:∀(m:Nat) y,c[m]?=some y->∃d,b[m]?=some (.str y d):=by
  intro m y p;obtain⟨w,R,o⟩:=r.get (i:=m) (x:=.str y) (by rw[K5,p];rfl);obtain⟨d,rfl⟩:=o;exact⟨d,R⟩
 have hll:b.length=c.length:=by rw[<- S,K3]
 have hsl:=I.lstM J;have O:b.length<=sizeLine:=by
  have:=L;omega
 rw[q0W]at O;refine call_meets F.slot_list_index ⟨_,e,rfl⟩ F.entry_list_index (F.args_list_index_2 _ _)
  (MeetsSeq.list_index l b.toArray n (.str z t) (wc z) (λy p=>?_) j (by rw[K9];omega) ⋯ ?_ ?_) ⟨e,?_⟩
 ·obtain⟨m,C,U⟩:=List.getElem_of_mem (by simpa using p)
  obtain⟨d,a⟩:=k m (c[m]'⋯) (K0 _);rw[K0 C,U]at a
  injection a with a
  subst a;exact PySem.SeqRoads2.EqGives.str _ _ _ _
 ·obtain⟨d,a⟩:=k j z G
  rw[K0 ⋯]at a
  injection a with a
  show wc z b[j]=true;rw[a];simp[wc]
 ·intro m C D
  have g:m<c.length:=by rw[K9]at C;omega
  obtain⟨d,a⟩:=k m (c[m]'g) (K0 _);rw[K0 ⋯]at a
  injection a with a
  show wc z b[m]=false;rw[a];cases T:wc z (.str (c[m]'g) d) with
  |false=>rfl
  |true=>exact q0Q (DS T) (B m _ D (K0 g))
 ·exact⟨.int _,H,I.tok _,⟨_,rfl⟩,q⟩
end
section
variable {K:LW}{g:TG}{ti:TT}{te:TE}{σ:St}{H:Hp}{Q:List V->Hp->Prop}{α β:Type}
theorem uV{as:List α}{f:α->Option β}{i:Nat}{x:α}(hx:as[i]?=some x):(as.take (i+1)).filterMap f=(as.take i).filterMap f++(f x).toList:=by
 rw[q0E,hx,List.filterMap_append];show _++List.filterMap f [x]=_;cases h:f x<;>simp[h]
theorem u9(A:Hp->Addr->β->Prop)(up:∀{H H':Hp} {b:Addr} {y:β},A H b y->aA H H'->A H' b y){a:Addr}{as:List α}{emb:α->V}{f:α->Option β}(S:St->Prop)(h0:S σ)(hl:∀H',aA H H'->aR K H' a (as.map emb))(hn:as.length<=1000000)
  (hs:∀(i:Nat) x,as[i]?=some x->∀σ H' (N1:V->St->Hp->Prop) (N0:St->Hp->Prop),S σ->aA H H'->(∀b y σ2 H2,f x=some y->A H2 b y->aA H H2->aA H' H2->S σ2->N1 (.ref b) σ2 H2)->(∀σ2 H2,f x=none->aA H H2->aA H' H2->S σ2->N0 σ2 H2) ->
   g (emb x) σ H' λσ2 H3=>ti σ2 H3 λb H4=>if b=true then te σ2 H4 λv H5=>N1 v σ2 H5 else N0 σ2 H4)
  (he:∀bs H',aA H H'->aM A H' bs (as.filterMap f)->Q (bs.map V.ref) H'):gl (zT K a) g ti te σ H Q:=by
 refine c_ (xs:=as.map emb) (λi c σ H'=>aA H H'/\(∃bs:List Addr,c=bs.map V.ref/\aM A H' bs ((as.take i).filterMap f))/\i<=as.length/\S σ) ⟨λ_ _ e=>e,⟨[],rfl,aM.nil⟩,Lo _,h0⟩ ?_ ?_ ?_ ?_ ?_
 ·rintro i c σ H' ⟨_,⟨bs,rfl,h⟩,_⟩
  have:=h.1;have h2:=List.length_filterMap_le f (as.take i);rw[LC]at h2;rw[K3];exact bj ⋯
 ·rintro i c σ H' ⟨_,_,h,_⟩
  rw[K3];exact h
 ·rintro i c σ H' ⟨j,_⟩
  exact hl _ j
 ·rintro i x c σ H' l ⟨j,⟨bs,rfl,k⟩,hi,n⟩
  have d:i<as.length:=by have:=(K1.mp l).1;rwa [K3]at this
  rw[K5,K0 d]at l;cases l;have m:as[i]?=some as[i]:=K0 d;refine hs i as[i] m σ H' (λv σ2 H5=>_) (λσ2 H4=>_) n j (λb y σ2 H2 hf hA s2 s3 hS2=>⟨s2,⟨bs++[b],by rw[Lc];rfl,?_⟩,d,hS2⟩) (λσ2 H2 hf s2 s3 hS2=>⟨s2,⟨bs,rfl,?_⟩,d,hS2⟩)
  ·rw[uV m,hf]
   exact(k.mono λb y _ _ h=>up h s3).snoc hA
  ·rw[uV m,hf]
   show aM A H2 bs (_++[]);rw[Ly];exact k.mono λb y _ _ h=>up h s3
 ·rintro c σ H' ⟨j,⟨bs,rfl,k⟩,_⟩
  have e:(as.take (as.map emb).length).filterMap f=as.filterMap f:=by rw[K3,LB]
  rw[e]at k;exact he _ _ j k
end
end L2
namespace L2
open PySem PySem.Spec PyProof.Rows QL PySem.Builtin PySem.Builtin.Str
section
variable {X:Cx}
def BD:R2:=λx y H Q=>∃(r:LY) (n:Nat),x=.str (tx r)/\y=.int (n:Int)/\1<=n/\n<=1000/\r.length<=1000/\Q (.str (tx (List.replicate n r).flatten)) H
theorem yz(r:LY):∀n (a:LY),(List.replicate n (tx r).cps).foldl (· ++ ·) a.toArray=(a++(List.replicate n r).flatten).toArray
 |0,a=>by simp
 |n+1,a=>by
  rw[List.replicate_succ,List.foldl_cons,List.replicate_succ,List.flatten_cons];have:a.toArray++(tx r).cps=(a++r).toArray:=by show a.toArray++r.toArray=_;simp
  rw[this,yz r n (a++r),Lz]
theorem Da:bD X (binaryOp .Mult) BD:=by
 intro pins s σ H x y v u Q I rx ry h;obtain⟨r,n,rfl,rfl,n1,n2,hr,q⟩:=h;obtain⟨t,rfl⟩:=rx;obtain⟨t',rfl⟩:=ry;have hl:(tx r).length*n<=1000*1000:=by rw[aC];exact Nat.mul_le_mul hr n2
 refine P.mul_str ?_ (λ_ _=>?_) (λ_ _=>?_) ?_
 ·rw[q08 ⋯,q08 ⋯];rfl
 ·have h1:((tx r).length:Int)<=1000:=by rw[aC];omega
  have h2:(1000:Int)<=(2 ^ 63-1)/(n:Int):=by
   rw[Int.le_ediv_iff_mul_le ⋯];omega
  omega
 ·rw[K']
  show decide (_>sizeLine)=false;rw[decide_eq_false_iff_not];have:=q0W;omega
 ·rw[q06 ⋯]
  split
  ·rename_i hc
   have e:tx (List.replicate n r).flatten=tx r:=by
    rcases(by simpa[aC]using hc:(n:Int)=1\/r=[]) with h | h
    ·have:n=1:=by omega
     subst this;simp
    ·subst h;simp
   rw[e]at q;exact⟨.str (tx r),H,I,⟨_,rfl⟩,q⟩
  ·rw[K']
   have e:(⟨(List.replicate n (tx r).cps).foldl (· ++ ·) #[]⟩:Str)=tx (List.replicate n r).flatten:=by
    have:=yz r n [];rw[LO]at this;show Str.mk _=Str.mk _;rw[<- this]
   rw[e];have hz:(tx (List.replicate n r).flatten).length<=1000000:=by
    rw[aC,DD,Nat.mul_comm];rw[aC]at hl;exact hl
   exact⟨av hz,.str _,H,I.tok _,⟨_,rfl⟩,q⟩
end
theorem jR{H H':Hp}(h:H l=none)(e:aG H l o=H'):aA H H'/\H' l=some o:=by subst e;exact⟨ai h,af⟩
structure Dj(K:LW)(x qual:Str)(st:Stmt)(f:Addr)(fd:L7)(dT:Addr):Prop where
 ex:∃(oc:Value) (od:Mc) (kV doc pm:Value) (an:Mc) (cdv ct:Value) (osl:Array (Option Value)),
  fd=PySem.W.fnOf x qual (cR st) (cB st) (ak st) (.ref dT) kV doc pm an cdv ct/\K.lookup f=some ⟨oc,od,.func fd,osl⟩/\PySem.W.codeIn K cdv qual=true
section
variable {P:L8}{w:Mb}{K:LW}{mg:L6}{base:Heap}
theorem Dj.okX{qual:Str}{st:Stmt}{f dT:Addr}{ps:L9}{sp:Sp}(F:Dj K x qual st f fd dT)(S:aB N ps (ak st))(len:∀vs H Q E,sp vs H Q E->vs.length=ps.length)
  (hbody:∀(cdv:Value) (A:Ma) (outer:List Env) (s:LZ) (H:Hp) (vs:List V) (Q:VK) (E:XK),cI k (A.deeper (envOfC qual (ak st) s.heap.objs.size f cdv))->sp vs H Q E ->
   ∃t,ux (im (j8 P w) P w K mg base N qual (ak st) f cdv A outer s H E) (cB st) t/\t {nx:=λ_ H'=>Q .non H',rt:=Q} (start N vs) H):aS P w K mg base (j8 P w) (k+1) f fd ps sp:=by
 obtain⟨oc,od,kV,doc,pm,an,cdv,ct,osl,rfl,c,b⟩:=F.ex;exact AL c b S len λA outer s H vs Q E hr a=>hbody cdv A outer s H vs Q E hr a
end
section
variable {X:Cx}
end
end L2
namespace TS
open PySem PyProof.Rows
section
variable {M:Model}{A:Ma}{E:LV}{J:Shared->Prop}{σ:Type}
def eY(M:Model)(A:Ma)(E:LV)(J:Shared->Prop){α:Type}(m:StateT σ Sem α)(Q:α->σ->Prop)(st:σ):Prop:=
 ∀s,J s->wpAny M A (m.run st) (λr s'=>J s'/\Q r.1 r.2) E s
theorem ay{α:Type}{a:α}{Q:α->σ->Prop}{st:σ}(h:Q a st):eY M A E J (pure a:StateT σ Sem α) Q st:=by
 intro s j;rw[StateT.run_pure];exact q05 ⟨j,h⟩
theorem ar{α β:Type}{m:StateT σ Sem α}{f:α->StateT σ Sem β}{Q:β->σ->Prop}{st:σ}
  (h:eY M A E J m (λa st'=>eY M A E J (f a) Q st') st):eY M A E J (m >>= f) Q st:=by
 intro s j;rw[StateT.run_bind]
 exact q04 (q0X (h s j) (λr c b=>b.2 c b.1) λ_ _ e=>e)
theorem bC{α:Type}{m:StateT σ Sem α}{Q Q':α->σ->Prop}{st:σ}(h:eY M A E J m Q st)(hq:∀a st',Q a st'->Q' a st'):eY M A E J m Q' st:=
 λs j=>q0X (h s j) (λr _ h'=>⟨h'.1,hq _ _ h'.2⟩) λ_ _ e=>e
theorem gB{Q:σ->σ->Prop}{st:σ}(h:Q st st):eY M A E J (get:StateT σ Sem σ) Q st:=by
 intro s j;rw[StateT.run_get];exact q05 ⟨j,h⟩
theorem cU{f:σ->σ}{Q:PUnit->σ->Prop}{st:σ}(h:Q ⟨⟩ (f st)):eY M A E J (modify f:StateT σ Sem PUnit) Q st:=by
 intro s j;rw[StateT.run_modify];exact q05 ⟨j,h⟩
theorem GN{x:σ}{Q:PUnit->σ->Prop}{st:σ}(h:Q ⟨⟩ x):eY M A E J (set x:StateT σ Sem PUnit) Q st:=by
 intro s j;rw[StateT.run_set];exact q05 ⟨j,h⟩
theorem jZ{α:Type}{m:Sem α}{Q:α->σ->Prop}{st:σ}(h:∀s,J s->wpAny M A m (λa s'=>J s'/\Q a st) E s) :
  eY M A E J (liftM m:StateT σ Sem α) Q st:=by
 intro s j;show wpAny M A ((StateT.lift m:StateT σ Sem α).run st) _ E s;rw[StateT.run_lift];exact q04 (q0X (h s j) (λa s' b=>q05 b) λ_ _ e=>e)
theorem Ch{β:Type}(f:Nat->β->StateT σ Sem (ForInStep β))(I:List Nat->β->σ->Prop)(Q:β->σ->Prop)
  (hs:∀x bx b st,I (x::bx) b st->eY M A E J (f x b) (λr st'=>match r with | .done b'=>Q b' st' | .yield b'=>I bx b' st') st)
  (he:∀b st,I [] b st->Q b st):∀(l:LY) (b:β) (st:σ),I l b st->eY M A E J (forIn l b f) Q st
 | [],b,st,h=>by rw[List.forIn_nil];exact ay (he _ _ h)
 |x::bx,b,st,h=>by
  rw[List.forIn_cons];refine ar (bC (hs x bx b st h) λr st' h'=>?_);cases r with
  |done b'=>exact ay h'
  |yield b'=>exact Ch f I Q hs he bx b' st' h'
theorem d_{β:Type}{a b:Nat}{f:Nat->β->StateT σ Sem (ForInStep β)}(I:Nat->β->σ->Prop){Q:β->σ->Prop}
  (hs:∀i c st,a<=i->i<b->I i c st->eY M A E J (f i c) (λr st'=>match r with | .done c'=>Q c' st' | .yield c'=>I (i+1) c' st') st)
  (he:∀c st,I (max a b) c st->Q c st) {c:β} {st:σ} (h:I a c st):eY M A E J (forIn [a:b] c f) Q st:=by
 rw[Std.Legacy.Range.forIn_eq_forIn_range'];have o:([a:b]:Std.Legacy.Range).size=b-a:=by simp[Std.Legacy.Range.size]
 show eY M A E J (forIn (List.range' a ([a:b]:Std.Legacy.Range).size 1) c f) Q st;rw[o];refine Ch f (λl c st=>∃n,l.length=n/\∃i,a<=i/\l=List.range' i n 1/\i+n=max a b/\I i c st) Q ?_ ?_ _ c st ⟨b-a,by simp,a,Ln _,rfl,⋯,h⟩
 ·rintro x bx c st ⟨n,e,i,d,g,j,k⟩
  cases n with
  |zero=>simp at e
  |succ n=>
   rw[List.range'_succ]at g;obtain⟨rfl,rfl⟩:=List.cons.inj g;refine bC (hs x c st d ⋯ k) λr st' m=>?_;cases r with
   |done c'=>exact m
   |yield c'=>exact⟨n,by simp,x+1,⋯,rfl,⋯,m⟩
 ·rintro c st ⟨n,e,i,d,g,j,k⟩
  simp at e;subst e
  have:i=max a b:=by omega
  subst this;exact he _ _ k
end
section
variable {prog:L8}{w:Mb}{A:Ma}{E:LV}{J:Shared->Prop}{a₀:Array Keyed}{kd:SortKind}{r:Keyed->Nat}
def qf(prog:L8)(w:Mb)(A:Ma)(J:Shared->Prop)(a₀:Array Keyed)(kd:SortKind)(r:Keyed->Nat):Prop:=
 ∀x,x∈a₀.toList->∀y,y∈a₀.toList->∀s,J s->wpAny (model prog w) A (keyLt' kd x.1 y.1) (λb s'=>J s'/\b=decide (r x<r y)) (λ_ _=>False) s
theorem Cm(C:qf prog w A J a₀ kd r){x y:Keyed}(hx:x∈a₀.toList)(hy:y∈a₀.toList){st:SortSt}(hk:kindOf st=kd){Q:Option Bool->SortSt->Prop}
  (h:Q (some (decide (r x<r y))) st):eY (model prog w) A E J (lt' x y) Q st:=by
 rw[lt'_eq];refine ar (gB ?_);rw[hk];refine ar (jZ λs j=>wpAny_attempt (q0X (C x hx y hy s j) (λb s' c=>?_) λ_ _ e=>?_))
 ·obtain⟨a,rfl⟩:=c;exact⟨a,ay h⟩
 ·exact e.elim
theorem ci{arr:Array Keyed}{i:Nat}{p:Keyed}(hp:arr[i]?=some p){st:SortSt}{Q:Keyed->SortSt->Prop}(h:Q p st):eY (model prog w) A E J (elem' arr i) Q st:=by
 rw[elem'_eq,hp];exact ay h
def gR:Bool->Keyed->Array Keyed->Nat->Nat->Nat->StateT SortSt Sem (Option Nat):=sortPriv% PySem.Builtin.gallop
theorem uO{n lo hi:Nat}{st:SortSt}{Q:Option Nat->SortSt->Prop}{B:Nat->Bool}{bey:Nat->StateT SortSt Sem (Option Bool)}
  (be:∀i,i<n->∀{Q':Option Bool->SortSt->Prop},Q' (some (B i)) st->eY (model prog w) A E J (bey i) Q' st)
  (hm:∀i j,i<=j->j<n->B j=true->B i=true) (hl:lo<=hi) (hh:hi<=n) (fl:∀i,i<lo->B i=true) (fh:∀i,hi<=i->i<n->B i=false)
  (h:∀k,k<=n->(∀i,i<k->B i=true)->(∀i,k<=i->i<n->B i=false)->Q (some k) st)
  {F:Nat->Option (Option Nat)×Nat×Nat->StateT SortSt Sem (ForInStep (Option (Option Nat)×Nat×Nat))}
  (hF:∀x l u,F x (none,l,u)=if l≥u then pure (ForInStep.done (none,l,u)) else bey (l+(u-l)/2) >>= λo=>match o with
   |some t=>if t=true then pure (ForInStep.yield (none,l+(u-l)/2+1,u)) else pure (ForInStep.yield (none,l,l+(u-l)/2))
   |none=>pure (ForInStep.done (some none,l,u)))
  {G:Option (Option Nat)×Nat×Nat->StateT SortSt Sem (Option Nat)} (hG:∀l u,G (none,l,u)=pure (some u)) :
  eY (model prog w) A E J (forIn [0:n] (none,lo,hi) F >>= G) Q st:=by
 refine ar (bC (d_ (I:=λx c a=>a=st/\∃l u,c=(none,l,u)/\l<=u/\u<=n/\u-l<=n-x/\(∀i,i<l->B i=true)/\(∀i,u<=i->i<n->B i=false))
  (Q:=λc a=>a=st/\∃l u,c=(none,l,u)/\u<=n/\(∀i,i<u->B i=true)/\(∀i,u<=i->i<n->B i=false)) ?s ?e ⟨rfl,lo,hi,rfl,hl,hh,⋯,fl,fh⟩) ?p)
 case e=>
  rintro c a ⟨rfl,l,u,rfl,h1,h2,z,d,b⟩;exact⟨rfl,l,u,rfl,h2,λi g=>d i ⋯,b⟩
 case s=>
  rintro x c a _ hxn ⟨rfl,l,u,rfl,h1,h2,z,d,b⟩;rw[hF]
  by_cases m:l≥u
  ·rw[q07 m];exact ay ⟨rfl,l,u,rfl,h2,λi g=>d i ⋯,b⟩
  ·rw[q06 m]
   refine ar (be (l+(u-l)/2) ⋯ ?_);dsimp only
   by_cases q:B (l+(u-l)/2)=true
   ·rw[q07 q];exact ay ⟨rfl,_,u,rfl,⋯,h2,⋯,λi g=>hm i _ ⋯ ⋯ q,b⟩
   ·rw[q06 q]
    refine ay ⟨rfl,l,_,rfl,⋯,⋯,⋯,d,λi v r=>?_⟩;cases y:B i with
    |false=>rfl
    |true=>exact q0Q (hm _ i v r y) q
 case p=>
  rintro c a ⟨rfl,l,u,rfl,h2,d,b⟩;rw[hG];exact ay (h u h2 d b)
theorem AD{left:Bool}{key:Keyed}{arr:Array Keyed}{base n hint:Nat}{st:SortSt}{Q:Option Nat->SortSt->Prop}{B:Nat->Bool}(C:qf prog w A J a₀ kd r)(hk:kindOf st=kd)
  (hkey:key∈a₀.toList) (hi:hint<n) (hx:∀i,i<n->∃x,arr[base+i]?=some x/\x∈a₀.toList/\B i=if left then decide (r x<r key) else !decide (r key<r x))
  (hm:∀i j,i<=j->j<n->B j=true->B i=true)
  (h:∀k,k<=n->(∀i,i<k->B i=true)->(∀i,k<=i->i<n->B i=false)->Q (some k) st) :
  eY (model prog w) A E J (gR left key arr base n hint) Q st:=by
 have G:∀i,i<n->∀{L:Option Bool->SortSt->Prop},L (some (B i)) st->eY (model prog w) A E J (do
   let x <- elem' arr (base+i)
   if left=true then lt' x key else do
    let y <- lt' key x
    pure (y.map (!·))) L st:=by
  intro i hi L q;obtain⟨x,e,m,b⟩:=hx i hi;refine ar (ci e ?_);cases left with
  |true=>rw[q07 rfl]at b ⊢;exact Cm C m hkey hk (by rw[<- b];exact q)
  |false=>
   rw[q06 nofun]at b ⊢;exact ar (Cm C hkey m hk (ay (by show L (some (!decide _)) st;rw[<- b];exact q)))
 unfold gR;refine ar (G hint hi ?_);dsimp only
 by_cases S:B hint=true
 ·rw[q07 S]
  refine ar (bC (d_ (I:=λx c a=>a=st/\∃l o,c=(none,l,o)/\l<o/\x+1<=o/\hint+l<n/\B (hint+l)=true)
   (Q:=λc a=>a=st/\∃l o,c=(none,l,o)/\l<o/\hint+l<n/\B (hint+l)=true/\(n-hint<=o\/B (hint+o)=false)) ?s1 ?e1 ⟨rfl,0,1,rfl,⋯,⋯,⋯,S⟩) ?p1)
  case e1=>
   rintro c a ⟨rfl,l,o,rfl,h1,h2,p,g⟩;exact⟨rfl,l,o,rfl,h1,p,g,.inl ⋯⟩
  case s1=>
   rintro x c a _ O ⟨rfl,l,o,rfl,h1,h2,p,g⟩;dsimp only
   by_cases d:o≥n-hint
   ·rw[q07 d];exact ay ⟨rfl,l,o,rfl,h1,p,g,.inl d⟩
   ·rw[q06 d]
    refine ar (G (hint+o) ⋯ ?_);dsimp only
    by_cases D:B (hint+o)=true
    ·rw[D,q06 nofun];exact ay ⟨rfl,o,2*o+1,rfl,⋯,⋯,⋯,D⟩
    ·have v:B (hint+o)=false:=by cases z:B (hint+o)<;>simp_all
     rw[v,q07 nofun];exact ay ⟨rfl,l,o,rfl,h1,p,g,.inr v⟩
  case p1=>
   rintro c a ⟨rfl,l,o,rfl,h1,p,g,h5⟩;dsimp only;have T:∀i,i<hint+l+1->B i=true:=λi hi'=>hm i (hint+l) ⋯ p g;have U:∀i,hint+min o (n-hint)<=i->i<n->B i=false:=by
    intro i Y M;rcases h5 with h5 | h5
    ·omega
    ·cases z:B i with
     |false=>rfl
     |true=>exact q0Q (hm (hint+o) i ⋯ M z) (by rw[h5];decide)
   exact uO G hm ⋯ ⋯ T U h (λx l u=>ite_congr rfl (λ_=>rfl) λ_=>q0R _ (funext λo=>by cases o<;>rfl)) (λl u=>rfl)
 ·have R:B hint=false:=by cases z:B hint<;>simp_all
  rw[q06 S];refine ar (bC (d_ (I:=λx c a=>a=st/\∃l o,c=(none,l,o)/\l<o/\x+1<=o/\l<=hint/\B (hint-l)=false)
   (Q:=λc a=>a=st/\∃l o,c=(none,l,o)/\l<o/\l<=hint/\B (hint-l)=false/\(hint+1<=o\/(o<=hint/\B (hint-o)=true))) ?s2 ?e2 ⟨rfl,0,1,rfl,⋯,⋯,⋯,R⟩) ?p2)
  case e2=>
   rintro c a ⟨rfl,l,o,rfl,h1,h2,p,g⟩;exact⟨rfl,l,o,rfl,h1,p,g,.inl ⋯⟩
  case s2=>
   rintro x c a _ O ⟨rfl,l,o,rfl,h1,h2,p,g⟩;dsimp only
   by_cases d:o≥hint+1
   ·rw[q07 d];exact ay ⟨rfl,l,o,rfl,h1,p,g,.inl d⟩
   ·rw[q06 d]
    refine ar (G (hint-o) ⋯ ?_);dsimp only
    by_cases D:B (hint-o)=true
    ·rw[q07 D];exact ay ⟨rfl,l,o,rfl,h1,p,g,.inr ⟨⋯,D⟩⟩
    ·have v:B (hint-o)=false:=by cases z:B (hint-o)<;>simp_all
     rw[q06 D];exact ay ⟨rfl,o,2*o+1,rfl,⋯,⋯,⋯,v⟩
  case p2=>
   rintro c a ⟨rfl,l,o,rfl,h1,p,g,h5⟩;dsimp only;have T:∀i,i<hint+1-min o (hint+1)->B i=true:=by
    intro i Y;rcases h5 with h5 | ⟨h5,Z⟩
    ·omega
    ·exact hm i (hint-o) ⋯ ⋯ Z
   have U:∀i,hint-l<=i->i<n->B i=false:=by
    intro i Y M;cases z:B i with
    |false=>rfl
    |true=>exact q0Q (hm (hint-l) i ⋯ M z) (by rw[g];decide)
   exact uO G hm ⋯ ⋯ T U h (λx l u=>ite_congr rfl (λ_=>rfl) λ_=>q0R _ (funext λo=>by cases o<;>rfl)) (λl u=>rfl)
end
structure MI{α:Type}(le:α->α->Prop)(X Y out rx ry:List α):Prop where
 ex:∃px py,X=px++rx/\Y=py++ry/\out.Perm (px++py)
 so:out.Pairwise le
 ah:∀p,p∈out->∀q,q∈rx++ry->le p q
namespace MI
variable {α:Type}{le:α->α->Prop}{X Y out rx ry:List α}
theorem start(X Y:List α):MI le X Y [] X Y:=⟨⟨[],[],rfl,rfl,List.Perm.refl _⟩,.nil,λp h=>nomatch h⟩
theorem swap(h:MI le X Y out rx ry):MI le Y X out ry rx:=by
 obtain⟨⟨d,c,j,i,g⟩,s,a⟩:=h;exact⟨⟨c,d,i,j,g.trans List.perm_append_comm⟩,s,λp e q b=>a p e q (by rw[Ld]at b ⊢;exact b.symm)⟩
theorem takeX{c rx':List α}(h:MI le X Y out (c++rx') ry)(sX:X.Pairwise le)(hc:∀p,p∈c->∀q,q∈ry->le p q):MI le X Y (out++c) rx' ry:=by
 obtain⟨⟨d,i,e,k,j⟩,s,a⟩:=h;rw[e]at sX;have g:=(List.pairwise_append.mp sX).2.1;have b:=List.pairwise_append.mp g;refine⟨⟨d++c,i,by rw[e,Lz],k,?_⟩,List.pairwise_append.mpr ⟨s,b.1,λp hp q hq=>a p hp q (by simp[hq])⟩,λp hp q hq=>?_⟩
 ·refine(j.append_right c).trans ?_
  rw[Lz,Lz];exact List.perm_append_comm.append_left d
 ·rcases Ld.mp hp with hp | hp
  ·exact a p hp q (by rcases Ld.mp hq with hq | hq<;>simp[hq])
  ·rcases Ld.mp hq with hq | hq
   ·exact b.2.2 p hp q hq
   ·exact hc p hp q hq
theorem takeY{c ry':List α}(h:MI le X Y out rx (c++ry'))(sY:Y.Pairwise le)(hc:∀p,p∈c->∀q,q∈rx->le p q):MI le X Y (out++c) rx ry':=
 (h.swap.takeX sY hc).swap
theorem oneX{x:α}{rx':List α}(h:MI le X Y out (x::rx') ry)(sX:X.Pairwise le)(hc:∀q,q∈ry->le x q):MI le X Y (out++[x]) rx' ry:=
 takeX (c:=[x]) h sX λp hp q hq=>by rw[K4]at hp;subst hp;exact hc q hq
theorem oneY{y:α}{ry':List α}(h:MI le X Y out rx (y::ry'))(sY:Y.Pairwise le)(hc:∀q,q∈rx->le y q):MI le X Y (out++[y]) rx ry':=
 takeY (c:=[y]) h sY λp hp q hq=>by rw[K4]at hp;subst hp;exact hc q hq
theorem len(h:MI le X Y out rx ry):out.length+rx.length+ry.length=X.length+Y.length:=by
 obtain⟨⟨px,py,c,b,a⟩,_,_⟩:=h;have:=a.length_eq;rw[c,b];simp at this ⊢;omega
theorem fin{l:List α}(h:MI le X Y out rx ry)(hp:l.Perm (rx++ry))(hs:l.Pairwise le):(out++l).Pairwise le/\(out++l).Perm (X++Y):=by
 obtain⟨⟨b,py,e,d,c⟩,s,a⟩:=h;refine⟨List.pairwise_append.mpr ⟨s,hs,λp h1 q h2=>a p h1 q (hp.mem_iff.mp h2)⟩,?_⟩;rw[e,d];refine(c.append hp).trans ?_;rw[Lz,Lz];refine List.Perm.append_left b ?_;rw[<- Lz,<- Lz];exact List.perm_append_comm.append_right ry
theorem finX(h:MI le X Y out rx [])(sX:X.Pairwise le):(out++rx).Pairwise le/\(out++rx).Perm (X++Y):=by
 obtain⟨px,py,a,_,_⟩:=h.ex;exact h.fin (by rw[Ly]) (by rw[a]at sX;exact(List.pairwise_append.mp sX).2.1)
theorem finY(h:MI le X Y out [] ry)(sY:Y.Pairwise le):(out++ry).Pairwise le/\(out++ry).Perm (X++Y):=by
 obtain⟨px,py,_,a,_⟩:=h.ex;exact h.fin (by rw[LO]) (by rw[a]at sY;exact(List.pairwise_append.mp sY).2.1)
theorem lastX{x:α}(h:MI le X Y out [x] ry)(sY:Y.Pairwise le)(hx:∀q,q∈ry->le q x):(out++(ry++[x])).Pairwise le/\(out++(ry++[x])).Perm (X++Y):=by
 obtain⟨px,py,_,c,_⟩:=h.ex;refine h.fin List.perm_append_comm ?_;rw[c]at sY;exact List.pairwise_append.mpr ⟨(List.pairwise_append.mp sY).2.1,List.pairwise_singleton _ _,λp b q a=>by rw[K4]at a;subst a;exact hx p b⟩
end MI
theorem yG{α:Type}(a:Array α)(i:Nat):(a.extract i a.size).toList=a.toList.drop i:=by
 rw[Array.toList_extract];simp[List.extract];exact q0F (by simp)
theorem m6{α:Type}(a:Array α)(i k:Nat):(a.extract i (i+k)).toList=(a.toList.drop i).take k:=by
 rw[Array.toList_extract];simp[List.extract]
theorem fJ{α:Type}(a:Array α){i:Nat}(h:i<a.toList.length):∃x,a[i]?=some x/\a.toList.drop i=x::a.toList.drop (i+1)/\x∈a.toList:=by
 refine⟨a.toList[i],?_,q0T h,K_ h⟩;rw[<- q0G,K0 h]
def SG(st st':SortSt):Prop:=kindOf st'=kindOf st/\arrOf st'=arrOf st/\pendingOf st'=pendingOf st/\failedOf st'=failedOf st
theorem SG.refl(st:SortSt):SG st st:=⟨rfl,rfl,rfl,rfl⟩
abbrev PA:=Array Keyed
abbrev SM:=StateT SortSt Sem
abbrev gH(r:Keyed->Nat):Keyed->Keyed->Prop:=λp q=>r p<=r q
def uP:PA->PA->SM PA:=sortPriv% PySem.Builtin.mergeLo
def lG:Nat->SM Unit:=sortPriv% PySem.Builtin.setMinGallop
abbrev L1:=Option PA×PA×Nat×Nat×Nat×Nat
abbrev G4:=Option PA×PA×Nat×Nat×Nat×Nat×Nat
abbrev L0:=Option PA×PA×Nat×Nat×Nat
abbrev A5(a b:PA)(o:PA)(i j:Nat):PA:=o++a.extract i a.size++b.extract j b.size
abbrev FJ(a b:PA)(o:PA)(i j:Nat):PA:=o++b.extract j b.size++a.extract i a.size
def HV(a b:PA)(g:Nat)(o:PA)(i j m n:Nat):SM (ForInStep L1):=
 elem' b j >>= λy=>elem' a i >>= λx=>lt' y x >>= λt=>match t with
 |some t=>if t=true then elem' b j >>= λy=>
   if(j+1==b.size)=true then pure (.done (some (A5 a b (o.push y) i (j+1)),o.push y,i,j+1,0,n+1))
   else if n+1≥g then pure (.done (none,o.push y,i,j+1,0,n+1)) else pure (.yield (none,o.push y,i,j+1,0,n+1))
  else elem' a i >>= λx=>
   if(i+1+1==a.size)=true then pure (.done (some (FJ a b (o.push x) (i+1) j),o.push x,i+1,j,m+1,0))
   else if m+1≥g then pure (.done (none,o.push x,i+1,j,m+1,0)) else pure (.yield (none,o.push x,i+1,j,m+1,0))
 |_=>pure (.done (some (A5 a b o i j),o,i,j,m,n))
def G'(a b:PA)(o:PA)(i j g m n:Nat):SM (ForInStep G4):=
 elem' a i >>= λx=>if(i+1+1==a.size)=true then pure (.done (some (FJ a b (o.push x) (i+1) j),o.push x,i+1,j,g,m,n))
  else if(decide (m<7)&&decide (n<7))=true then pure (.done (none,o.push x,i+1,j,g,m,n)) else pure (.yield (none,o.push x,i+1,j,g,m,n))
def G2(a b:PA)(o:PA)(i j g m n:Nat):SM (ForInStep G4):=
 elem' b j >>= λy=>if(j+1==b.size)=true then pure (.done (some (A5 a b (o.push y) i (j+1)),o.push y,i,j+1,g,m,n))
  else elem' a i >>= λx=>gR true x b (j+1) (b.size-(j+1)) 0 >>= λt=>match t with
  |some k=>if k>0 then
    if(j+1+k==b.size)=true then pure (.done (some (A5 a b (o.push y++b.extract (j+1) (j+1+k)) i (j+1+k)),o.push y++b.extract (j+1) (j+1+k),i,j+1+k,g,m,k))
    else G' a b (o.push y++b.extract (j+1) (j+1+k)) i (j+1+k) g m k
   else G' a b (o.push y) i (j+1) g m k
  |_=>pure (.done (some (A5 a b (o.push y) i (j+1)),o.push y,i,j+1,g,m,n))
def GZ(a b:PA)(o:PA)(i j g m n:Nat):SM (ForInStep G4):=
 lG g >>= λ_=>elem' b j >>= λy=>gR false y a i (a.size-i) 0 >>= λt=>match t with
  |some k=>if k>0 then
    if(i+k+1==a.size)=true then pure (.done (some (FJ a b (o++a.extract i (i+k)) (i+k) j),o++a.extract i (i+k),i+k,j,g,k,n))
    else if(i+k==a.size)=true then pure (.done (some (A5 a b (o++a.extract i (i+k)) (i+k) j),o++a.extract i (i+k),i+k,j,g,k,n))
    else G2 a b (o++a.extract i (i+k)) (i+k) j g k n
   else G2 a b o i j g k n
  |_=>pure (.done (some (A5 a b o i j),o,i,j,g,m,n))
def Hy(a b:PA)(s:L0):SM (ForInStep L0):=
 forIn [0:a.size+b.size] ((none,s.2.1,s.2.2.1,s.2.2.2.1,0,0):L1) (λ_ t=>HV a b s.2.2.2.2 t.2.1 t.2.2.1 t.2.2.2.1 t.2.2.2.2.1 t.2.2.2.2.2) >>= λt=>
 match t.1 with
 |some z=>pure (.done (some z,t.2.1,t.2.2.1,t.2.2.2.1,s.2.2.2.2))
 |none=>liftM (rule "list.sort.gallop") >>= λ_=>
  forIn [0:a.size+b.size] ((none,t.2.1,t.2.2.1,t.2.2.2.1,s.2.2.2.2+1,t.2.2.2.2.1,t.2.2.2.2.2):G4) (λ_ u=>
   if u.2.2.2.2.1>1 then GZ a b u.2.1 u.2.2.1 u.2.2.2.1 (u.2.2.2.2.1-1) u.2.2.2.2.2.1 u.2.2.2.2.2.2 else GZ a b u.2.1 u.2.2.1 u.2.2.2.1 u.2.2.2.2.1 u.2.2.2.2.2.1 u.2.2.2.2.2.2) >>= λu=>
  match u.1 with
  |some z=>pure (.done (some z,u.2.1,u.2.2.1,u.2.2.2.1,u.2.2.2.2.1))
  |none=>lG (u.2.2.2.2.1+1) >>= λ_=>pure (.yield (none,u.2.1,u.2.2.1,u.2.2.2.1,u.2.2.2.2.1+1))
def ED(a b:PA):SM PA:=
 liftM (rule "list.sort.merge-lo") >>= λ_=>elem' b 0 >>= λy=>
 if((1:Nat)==b.size)=true then pure (A5 a b #[y] 0 1) else if((0:Nat)+1==a.size)=true then pure (FJ a b #[y] 0 1) else
 get >>= λst=>forIn [0:a.size+b.size] ((none,#[y],0,1,gallopOf st):L0) (λ_ s=>Hy a b s) >>= λs=>
 match s.1 with
 |some z=>pure z
 |none=>liftM (unsupported "internal:list.sort.merge-bound":Sem PA)
theorem aO{α β:Type}{m m':SM α}{f g:α->SM β}(e:m=m')(h:∀x,f x=g x):(m >>= f)=(m' >>= g):=by rw[e,funext h]
theorem gv{β:Type}{n:Nat}{c:β}{f g:Nat->β->SM (ForInStep β)}(h:∀x s,f x s=g x s):(forIn [0:n] c f:SM β)=forIn [0:n] c g:=by
 rw[show f=g from funext λx=>funext λs=>h x s]
theorem dC{α:Type}{c:Prop}[Decidable c]{a b a' b':α}(h:a=a')(k:b=b'):(if c then a else b)=if c then a' else b':=by rw[h,k]
theorem v7(a b:PA):uP a b=ED a b:=by
 refine aO rfl λ_=>aO rfl λy=>dC rfl (dC rfl (aO rfl λst=>aO (gv λ_ s=>?_) λs=>?_))
 ·refine aO (gv λ_ t=>?_) λt=>?_
  ·refine aO rfl λy=>aO rfl λx=>aO rfl λt=>?_
   rfl
  ·obtain⟨z,t⟩:=t
   cases z with
   |some z=>rfl
   |none=>
    refine aO rfl λ_=>aO (gv λ_ u=>dC ?_ ?_) λu=>?_
    ·rfl
    ·rfl
    ·obtain⟨z,u⟩:=u
     cases z<;>rfl
 ·obtain⟨z,s⟩:=s
  cases z<;>rfl
section
variable {prog:L8}{w:Mb}{A:Ma}{E:LV}{J:Shared->Prop}{a₀:Array Keyed}{kd:SortKind}{r:Keyed->Nat}
def bt(r:Keyed->Nat)(left:Bool)(key p:Keyed):Prop:=if left=true then r p<r key else r p<=r key
noncomputable instance (left:Bool)(key p:Keyed):Decidable (bt r left key p):=by unfold bt;infer_instance
theorem CS{arr:PA}{base n t:Nat}(hn:base+n<=arr.toList.length)(ht:t<n):arr[base+t]?=((arr.toList.drop base).take n)[t]?:=by
 rw[List.getElem?_take,q07 ht,List.getElem?_drop,q0G]
theorem qH{left:Bool}{key:Keyed}{arr:PA}{base n hint:Nat}{st:SortSt}{Q:Option Nat->SortSt->Prop}(C:qf prog w A J a₀ kd r)(hk:kindOf st=kd)(hkey:key∈a₀.toList)
  (hi:hint<n) (hn:base+n<=arr.toList.length) (mem:∀p,p∈(arr.toList.drop base).take n->p∈a₀.toList) (srt:((arr.toList.drop base).take n).Pairwise (gH r))
  (h:∀k,k<=n->(∀p,p∈((arr.toList.drop base).take n).take k->bt r left key p)->(∀p,p∈((arr.toList.drop base).take n).drop k->¬ bt r left key p)->Q (some k) st) :
  eY (model prog w) A E J (gR left key arr base n hint) Q st:=by
 generalize hS:(arr.toList.drop base).take n=S at *;have lS:S.length=n:=by rw[<- hS];simp at hn ⊢;omega
 have at':∀t,t<n->arr[base+t]?=S[t]?:=λt ht=>by rw[<- hS];exact CS hn ht
 refine AD (B:=λt=>match S[t]? with | some x=>decide (bt r left key x) | none=>false) C hk hkey hi (λt ht=>?_) (λi j hij hj hB=>?_) λk hk' f g=>h k hk' (λp hp=>?_) λp hp=>?_
 ·have e:S[t]?=some S[t]:=K0 ⋯
  refine⟨S[t],by rw[at' t ht,e],mem _ (K_ _),?_⟩;rw[e];dsimp only
  unfold bt;cases left with
  |true=>simp
  |false=>
   simp only[q0a,if_false]
   by_cases q:r key<r S[t]
   ·rw[q09 q,q08 ⋯];rfl
   ·rw[q08 q,q09 ⋯];rfl
 ·have e1:S[i]?=some S[i]:=K0 ⋯
  have e2:S[j]?=some S[j]:=K0 ⋯;rw[e2]at hB;rw[e1];dsimp only at hB ⊢
  have hle:r S[i]<=r S[j]:=by
   rcases Nat.lt_or_ge i j with q | q
   ·exact(List.pairwise_iff_getElem.mp srt) i j ⋯ ⋯ q
   ·have:i=j:=by omega
    subst this;exact Ln _
  have hB':=of_decide_eq_true hB;refine q09 ?_;unfold bt at hB' ⊢
  split at hB'<;>rename_i hc
  ·rw[q07 hc];omega
  ·rw[q06 hc];omega
 ·obtain⟨t,ht,e⟩:=List.mem_iff_getElem.mp hp
  rw[LC]at ht;rw[List.getElem_take]at e;have:=f t ⋯;rw[K0 ⋯]at this;rw[<- e];exact of_decide_eq_true this
 ·obtain⟨t,ht,e⟩:=List.mem_iff_getElem.mp hp
  rw[LD]at ht;rw[List.getElem_drop]at e;have:=g (k+t) ⋯ ⋯;rw[K0 ⋯]at this;rw[<- e];exact of_decide_eq_false this
theorem lO{left:Bool}{key:Keyed}(h:¬ bt r left key p):if left=true then r key<=r p else r key<r p:=by
 unfold bt at h
 split at h<;>rename_i hc
 ·rw[q07 hc];omega
 ·rw[q06 hc];omega
structure MC(prog:L8)(w:Mb)(A:Ma)(J:Shared->Prop)(a₀:PA)(kd:SortKind)(r:Keyed->Nat)(a b:PA):Prop where
 C:qf prog w A J a₀ kd r
 ha:∀p,p∈a.toList->p∈a₀.toList
 hb:∀p,p∈b.toList->p∈a₀.toList
 sa:a.toList.Pairwise (gH r)
 sb:b.toList.Pairwise (gH r)
 hl:∀x,a[a.toList.length-1]?=some x->∀q,q∈b.toList->r q<=r x
def iT(r:Keyed->Nat)(a b z:PA):Prop:=z.toList.Pairwise (gH r)/\z.toList.Perm (a.toList++b.toList)
structure jf(r:Keyed->Nat)(a b o:PA)(i j:Nat):Prop where
 mi:MI (gH r) a.toList b.toList o.toList (a.toList.drop i) (b.toList.drop j)
 hi:i+1<a.toList.length
 hj:j<b.toList.length
def PG(r:Keyed->Nat)(a b:PA)(k:Nat)(z:Option PA)(o:PA)(i j:Nat):Prop:=match z with
 |some z=>iT r a b z
 |none=>jf r a b o i j/\k<=o.size
variable {a b:PA}
theorem jf.lt(h:jf r a b o i j):o.size<a.size+b.size:=by
 have:=h.mi.len;have h1:=h.hi;have h2:=h.hj
 simp at this h1 h2;omega
theorem Gq(m:MC prog w A J a₀ kd r a b){o:PA}{i j:Nat}(h:MI (gH r) a.toList b.toList o.toList (a.toList.drop i) (b.toList.drop j))(hj:(j==b.size)=true\/(i==a.size)=true):iT r a b (A5 a b o i j):=by
 unfold iT;rw[show(A5 a b o i j).toList=o.toList++(a.toList.drop i++b.toList.drop j) by simp only[A5,q0V,yG,Lz]];rcases hj with hj | hj
 ·have e:b.toList.drop j=[]:=List.drop_eq_nil_of_le (by have:=eq_of_beq hj;simp;omega)
  rw[e]at h ⊢;rw[Ly];exact h.finX m.sa
 ·have e:a.toList.drop i=[]:=List.drop_eq_nil_of_le (by have:=eq_of_beq hj;simp;omega)
  rw[e]at h ⊢;rw[LO];exact h.finY m.sb
theorem Ha(m:MC prog w A J a₀ kd r a b){o:PA}{i j:Nat}(h:MI (gH r) a.toList b.toList o.toList (a.toList.drop i) (b.toList.drop j))(hi:(i+1==a.size)=true):iT r a b (FJ a b o i j):=by
 have e:=eq_of_beq hi;obtain⟨x,k,d,e3⟩:=fJ a (i:=i) (by simp;omega);have c:a.toList.drop (i+1)=[]:=List.drop_eq_nil_of_le (by simp;omega);unfold iT;rw[show(FJ a b o i j).toList=o.toList++(b.toList.drop j++a.toList.drop i) by simp only[FJ,q0V,yG,Lz],d,c];rw[d,c]at h;refine h.lastX m.sb λq g=>m.hl x ?_ q (q0I g);rw[show a.toList.length-1=i by simp;omega];exact k
theorem nj{l:List Keyed}(s:l.Pairwise (gH r)){i:Nat}{y:Keyed}(e:l.drop i=y::l.drop (i+1)):∀q,q∈l.drop i->r y<=r q:=by
 intro q hq;have:=s.sublist (List.drop_sublist i l);rw[e]at this hq;rcases Lf.mp hq with rfl | hq
 ·exact Ln _
 ·exact(List.pairwise_cons.mp this).1 q hq
theorem cH{x y:Nat}(h:¬ (x==y)=true):x≠y:=λe=>h (by rw[e];exact beq_self_eq_true y)
theorem GL(m:MC prog w A J a₀ kd r a b){st:SortSt}(hk:kindOf st=kd){o:PA}{i j g u v:Nat}(h:jf r a b o i j) :
  eY (model prog w) A E J (HV a b g o i j u v) (λt st'=>st'=st/\match t with
   | .done s=>PG r a b (o.size+1) s.1 s.2.1 s.2.2.1 s.2.2.2.1
   | .yield s=>s.1=none/\PG r a b (o.size+1) s.1 s.2.1 s.2.2.1 s.2.2.2.1) st:=by
 unfold HV;obtain⟨y,p,n,D⟩:=fJ b h.hj;obtain⟨x,B,z,G⟩:=fJ a (i:=i) (by have:=h.hi;omega);refine ar (ci p (ar (ci B (ar (Cm m.C (m.hb _ D) (m.ha _ G) hk ?_)))));dsimp only;have mi:=h.mi
 by_cases l:r y<r x
 ·rw[q07 (q09 l)]
  refine ar (ci p ?_);rw[n]at mi;have c:MI (gH r) a.toList b.toList (o.push y).toList (a.toList.drop i) (b.toList.drop (j+1)):=by
   rw[Array.toList_push];exact mi.oneY m.sb λq k=>by have:=nj m.sa z q k;show r y<=r q;omega
  by_cases d:(j+1==b.size)=true
  ·rw[q07 d];exact ay ⟨rfl,Gq m c (.inl d)⟩
  ·rw[q06 d]
   have e:jf r a b (o.push y) i (j+1):=⟨c,h.hi,by have:=cH d;have:=h.hj;simp at this ⊢;omega⟩
   split
   ·exact ay ⟨rfl,e,by simp⟩
   ·exact ay ⟨rfl,rfl,e,by simp⟩
 ·rw[q06 (by simpa using l)]
  refine ar (ci B ?_);rw[z]at mi;have c:MI (gH r) a.toList b.toList (o.push x).toList (a.toList.drop (i+1)) (b.toList.drop j):=by
   rw[Array.toList_push];exact mi.oneX m.sa λq k=>by have:=nj m.sb n q k;show r x<=r q;omega
  by_cases d:(i+1+1==a.size)=true
  ·rw[q07 d];exact ay ⟨rfl,Ha m c d⟩
  ·rw[q06 d]
   have e:jf r a b (o.push x) (i+1) j:=⟨c,by have:=cH d;have:=h.hi;simp at this ⊢;omega,h.hj⟩
   split
   ·exact ay ⟨rfl,e,by simp⟩
   ·exact ay ⟨rfl,rfl,e,by simp⟩
theorem ni{st:SortSt}{Q:Unit->SortSt->Prop}(h:∀st',SG st st'->Q () st'):eY (model prog w) A E J (lG g) Q st:=by
 unfold lG;exact cU (h _ ⟨rfl,rfl,rfl,rfl⟩)
theorem yD{l:List Keyed}(i:Nat):(l.drop i).take (l.length-i)=l.drop i:=q0F (by simp)
theorem EA(m:MC prog w A J a₀ kd r a b){st:SortSt}{o:PA}{i j g u v k:Nat}(h:jf r a b o i j)(hk:k<=o.size)(hx:∀x,a[i]?=some x->∀q,q∈b.toList.drop j->r x<=r q) :
  eY (model prog w) A E J (G' a b o i j g u v) (λt st'=>st'=st/\match t with
   | .done s=>PG r a b (k+1) s.1 s.2.1 s.2.2.1 s.2.2.2.1
   | .yield s=>s.1=none/\PG r a b (k+1) s.1 s.2.1 s.2.2.1 s.2.2.2.1) st:=by
 unfold G';obtain⟨x,l,n,a3⟩:=fJ a (i:=i) (by have:=h.hi;omega);refine ar (ci l ?_);have mi:=h.mi;rw[n]at mi;have c:MI (gH r) a.toList b.toList (o.push x).toList (a.toList.drop (i+1)) (b.toList.drop j):=by
  rw[Array.toList_push];exact mi.oneX m.sa (hx x l)
 by_cases d:(i+1+1==a.size)=true
 ·rw[q07 d];exact ay ⟨rfl,Ha m c d⟩
 ·rw[q06 d]
  have e:jf r a b (o.push x) (i+1) j:=⟨c,by have:=cH d;have:=h.hi;simp at this ⊢;omega,h.hj⟩
  split
  ·exact ay ⟨rfl,e,by simp;omega⟩
  ·exact ay ⟨rfl,rfl,e,by simp;omega⟩
theorem jy(l:List Keyed)(i k:Nat):l.drop i=(l.drop i).take k++l.drop (i+k):=by
 rw[<- List.drop_drop];exact(List.take_append_drop k _).symm
theorem Ey(m:MC prog w A J a₀ kd r a b){st:SortSt}(hk:kindOf st=kd){o:PA}{i j g u v k:Nat}(h:jf r a b o i j)(hz:k<=o.size)(hy:∀y,b[j]?=some y->∀q,q∈a.toList.drop i->r y<=r q) :
  eY (model prog w) A E J (G2 a b o i j g u v) (λt st'=>st'=st/\match t with
   | .done s=>PG r a b (k+1) s.1 s.2.1 s.2.2.1 s.2.2.2.1
   | .yield s=>s.1=none/\PG r a b (k+1) s.1 s.2.1 s.2.2.1 s.2.2.2.1) st:=by
 unfold G2;obtain⟨y,U,b2,b3⟩:=fJ b h.hj;obtain⟨x,M,a2,a3⟩:=fJ a (i:=i) (by have:=h.hi;omega);refine ar (ci U ?_);have mi:=h.mi;rw[b2]at mi;have c:MI (gH r) a.toList b.toList (o.push y).toList (a.toList.drop i) (b.toList.drop (j+1)):=by
  rw[Array.toList_push];exact mi.oneY m.sb (hy y U)
 by_cases G:(j+1==b.size)=true
 ·rw[q07 G];exact ay ⟨rfl,Gq m c (.inl G)⟩
 ·rw[q06 G]
  have hj:=h.hj;have hj1:j+1<b.size:=by have:=cH G;simp at hj;omega
  have I:((b.toList.drop (j+1)).take (b.size-(j+1)))=b.toList.drop (j+1):=by have:=yD (l:=b.toList) (j+1);simpa using this
  refine ar (ci M (ar (qH m.C hk (m.ha _ a3) ⋯ (by simp;omega) (by rw[I];exact λp L=>m.hb p (q0I L)) (by rw[I];exact m.sb.sublist (List.drop_sublist _ _)) λe he T S=>?_)));rw[I]at T S;dsimp only;have Z:∀p,p∈(b.toList.drop (j+1)).take e->∀q,q∈a.toList.drop i->r p<=r q:=λp L q n=>by
   have O:r p<r x:=T p L;have:=nj m.sa a2 q n;omega
  have R:∀q,q∈b.toList.drop (j+1+e)->r x<=r q:=λq n=>by
   have O:=lO (S q (by rw[List.drop_drop];exact n));exact O
  by_cases B:e>0
  ·rw[q07 B]
   have z:MI (gH r) a.toList b.toList (o.push y++b.extract (j+1) (j+1+e)).toList (a.toList.drop i) (b.toList.drop (j+1+e)):=by
    rw[q0V,m6];rw[jy b.toList (j+1) e]at c;exact c.takeY m.sb Z
   by_cases d:(j+1+e==b.size)=true
   ·rw[q07 d];exact ay ⟨rfl,Gq m z (.inl d)⟩
   ·rw[q06 d]
    exact EA m ⟨z,h.hi,by have:=cH d;simp;omega⟩ (by simp;omega) λY D q n=>by rw[M]at D;cases D;exact R q n
  ·rw[q06 B]
   have e0:e=0:=by omega
   subst e0;exact EA m ⟨c,h.hi,by simp;omega⟩ (by simp;omega) λY D q n=>by rw[M]at D;cases D;exact R q n
theorem GQ(m:MC prog w A J a₀ kd r a b){st:SortSt}(hk:kindOf st=kd){o:PA}{i j g u v:Nat}(h:jf r a b o i j) :
  eY (model prog w) A E J (GZ a b o i j g u v) (λt st'=>SG st st'/\match t with
   | .done s=>PG r a b (o.size+1) s.1 s.2.1 s.2.2.1 s.2.2.2.1
   | .yield s=>s.1=none/\PG r a b (o.size+1) s.1 s.2.1 s.2.2.1 s.2.2.2.1) st:=by
 unfold GZ;refine ar (ni λst' z=>?_);have x:kindOf st'=kd:=z.1.trans hk;obtain⟨y,M,b2,b3⟩:=fJ b h.hj;have hi:=h.hi;have hi0:i+1<a.size:=by simpa using hi
 have I:((a.toList.drop i).take (a.size-i))=a.toList.drop i:=by have:=yD (l:=a.toList) i;simpa using this
 refine ar (ci M (ar (qH m.C x (m.hb _ b3) ⋯ (by simp;omega) (by rw[I];exact λp L=>m.ha p (q0I L)) (by rw[I];exact m.sa.sublist (List.drop_sublist _ _)) λe he S R=>?_)));rw[I]at S R;dsimp only;have Z:∀p,p∈(a.toList.drop i).take e->∀q,q∈b.toList.drop j->r p<=r q:=λp L q n=>by
  have Y:r p<=r y:=S p L;have:=nj m.sb b2 q n;omega
 have O:∀q,q∈a.toList.drop (i+e)->r y<=r q:=λq n=>by
  have Y:r y<r q:=lO (R q (by rw[List.drop_drop];exact n));omega
 by_cases B:e>0
 ·rw[q07 B]
  have d:MI (gH r) a.toList b.toList (o++a.extract i (i+e)).toList (a.toList.drop (i+e)) (b.toList.drop j):=by
   rw[q0V,m6];have mi:=h.mi;rw[jy a.toList i e]at mi;exact mi.takeX m.sa Z
  by_cases G:(i+e+1==a.size)=true
  ·rw[q07 G];exact ay ⟨z,Ha m d G⟩
  ·rw[q06 G]
   by_cases c:(i+e==a.size)=true
   ·rw[q07 c];exact ay ⟨z,Gq m d (.inr c)⟩
   ·rw[q06 c]
    refine bC (Ey (k:=o.size) m x ⟨d,by have:=cH G;have:=cH c;simp;omega,h.hj⟩ (by simp) λT D q n=>by rw[M]at D;cases D;exact O q n) λt U q=>⟨by rw[q.1];exact z,q.2⟩
 ·rw[q06 B]
  have e0:e=0:=by omega
  subst e0;exact bC (Ey (k:=o.size) m x h (Ln _) λT D q n=>by rw[M]at D;cases D;exact O q n) λt U q=>⟨by rw[q.1];exact z,q.2⟩
theorem SG.trans(h:SG x y)(k:SG y z):SG x z:=⟨k.1.trans h.1,k.2.1.trans h.2.1,k.2.2.1.trans h.2.2.1,k.2.2.2.trans h.2.2.2⟩
theorem GO(m:MC prog w A J a₀ kd r a b){st:SortSt}(hk:kindOf st=kd){s:L0}(h:jf r a b s.2.1 s.2.2.1 s.2.2.2.1) :
  eY (model prog w) A E J (Hy a b s) (λt st'=>SG st st'/\match t with
   | .done u=>∃z,u.1=some z/\iT r a b z
   | .yield u=>u.1=none/\jf r a b u.2.1 u.2.2.1 u.2.2.2.1/\s.2.1.size+1<=u.2.1.size) st:=by
 unfold Hy;refine ar (bC (d_ (I:=λx c st'=>st'=st/\c.1=none/\jf r a b c.2.1 c.2.2.1 c.2.2.2.1/\s.2.1.size+x<=c.2.1.size)
  (Q:=λc st'=>st'=st/\PG r a b (s.2.1.size+1) c.1 c.2.1 c.2.2.1 c.2.2.2.1) ?s1 ?e1 ⟨rfl,rfl,h,Ln _⟩) ?p1)
 case e1=>
  rintro c st' ⟨rfl,D,k,C⟩;have:=k.lt;omega
 case s1=>
  rintro x c st' _ C ⟨rfl,D,k,G⟩;refine bC (GL m hk k) λt d q=>?_;obtain⟨rfl,q⟩:=q;cases t with
  |done u=>
   refine⟨rfl,?_⟩;dsimp only at q
   revert q;unfold PG;cases u.1 with
   |some z=>exact id
   |none=>exact λq=>⟨q.1,by have:=q.2;omega⟩
  |yield u=>
   obtain⟨y,p⟩:=q;rw[y]at p;exact⟨rfl,y,p.1,by have:=p.2;omega⟩
 case p1=>
  rintro⟨z,o,i,j,u,v⟩ st' ⟨rfl,q⟩;cases z with
  |some z=>exact ay ⟨SG.refl _,z,rfl,q⟩
  |none=>
   obtain⟨k,G⟩:=q;dsimp only;refine ar (jZ λ_ L=>wpAny_rule ⟨L,?_⟩);refine ar (bC (d_ (I:=λx c d=>SG st' d/\c.1=none/\jf r a b c.2.1 c.2.2.1 c.2.2.2.1/\s.2.1.size+1<=c.2.1.size)
    (Q:=λc d=>SG st' d/\PG r a b (s.2.1.size+1) c.1 c.2.1 c.2.2.1 c.2.2.2.1) ?s2 ?e2 ⟨SG.refl _,rfl,k,G⟩) ?p2)
   case e2=>
    rintro c d ⟨n,D,k,C⟩;exact⟨n,by rw[D];exact⟨k,C⟩⟩
   case s2=>
    rintro x c d _ C ⟨n,D,k,G⟩;have B:∀g,eY (model prog w) A E J (GZ a b c.2.1 c.2.2.1 c.2.2.2.1 g c.2.2.2.2.2.1 c.2.2.2.2.2.2) (λt e=>match t with
      | .done c'=>SG st' e/\PG r a b (s.2.1.size+1) c'.1 c'.2.1 c'.2.2.1 c'.2.2.2.1
      | .yield c'=>SG st' e/\c'.1=none/\jf r a b c'.2.1 c'.2.2.1 c'.2.2.2.1/\s.2.1.size+1<=c'.2.1.size) d:=by
     intro g;refine bC (GQ m (n.1.trans hk) k) λt e q=>?_;obtain⟨l,q⟩:=q;cases t with
     |done u=>
      refine⟨n.trans l,?_⟩;dsimp only at q
      revert q;unfold PG;cases u.1 with
      |some z=>exact id
      |none=>exact λq=>⟨q.1,by have:=q.2;omega⟩
     |yield u=>
      obtain⟨y,p⟩:=q;rw[y]at p;exact⟨n.trans l,y,p.1,by have:=p.2;omega⟩
    split
    ·exact bC (B _) λt e q=>by cases t<;>exact q
    ·exact bC (B _) λt e q=>by cases t<;>exact q
   case p2=>
    rintro⟨z,o2,i2,j2,g2,u2,v2⟩ d ⟨n,q⟩;cases z with
    |some z=>exact ay ⟨n,z,rfl,q⟩
    |none=>exact ar (ni λe l=>ay ⟨n.trans l,rfl,q.1,q.2⟩)
theorem zg(m:MC prog w A J a₀ kd r a b){st:SortSt}(hk:kindOf st=kd){Q:PA->SortSt->Prop}(h0:∀y,b[0]?=some y->∀q,q∈a.toList->r y<=r q)
  (na:0<a.toList.length) (nb:0<b.toList.length) (h:∀l st',SG st st'->iT r a b l->Q l st'):eY (model prog w) A E J (uP a b) Q st:=by
 rw[v7];unfold ED
 obtain⟨y,B,v,b3⟩:=fJ b nb;refine ar (jZ λs j=>wpAny_rule ⟨j,ar (ci B ?_)⟩);have n:MI (gH r) a.toList b.toList (#[y]:PA).toList (a.toList.drop 0) (b.toList.drop 1):=by
  have:=MI.start (le:=gH r) a.toList b.toList;rw[show b.toList=y::b.toList.drop 1 from v]at this;have h2:=MI.oneY (by rw[show b.toList=y::b.toList.drop 1 from v];exact this) m.sb (h0 y B);exact h2
 by_cases k:((1:Nat)==b.size)=true
 ·rw[q07 k];exact ay (h _ _ (SG.refl _) (Gq m n (.inl k)))
 ·rw[q06 k]
  by_cases d:((0:Nat)+1==a.size)=true
  ·rw[q07 d];exact ay (h _ _ (SG.refl _) (Ha m n d))
  ·rw[q06 d]
   refine ar (gB ?_);refine ar (bC (d_ (I:=λx c st'=>SG st st'/\c.1=none/\jf r a b c.2.1 c.2.2.1 c.2.2.2.1/\x+1<=c.2.1.size)
    (Q:=λc st'=>SG st st'/\∃z,c.1=some z/\iT r a b z) ?s ?e ⟨SG.refl _,rfl,⟨n,by have:=cH d;simp at na ⊢;omega,by have:=cH k;simp at nb ⊢;omega⟩,by simp⟩) ?p)
   case e=>
    rintro c st' ⟨_,D,o,C⟩;have:=o.lt;omega
   case s=>
    rintro x c st' _ C ⟨i,D,o,hz⟩;refine bC (GO m (i.1.trans hk) o) λt st2 q=>?_;obtain⟨g,q⟩:=q;cases t with
    |done u=>exact⟨i.trans g,q⟩
    |yield u=>exact⟨i.trans g,q.1,q.2.1,by have:=q.2.2;omega⟩
   case p=>
    rintro⟨z,u⟩ st' ⟨i,z',e,q⟩;dsimp only at e;subst e;exact ay (h _ _ i q)
end
def vn:PA->PA->SM PA:=sortPriv% PySem.Builtin.mergeHi
abbrev H1:=Option PA×Nat×Nat×PA×Nat×Nat
abbrev H2:=Option PA×Nat×Nat×PA×Nat×Nat×Nat
abbrev H0:=Option PA×Nat×Nat×PA×Nat
abbrev BB(a b:PA)(i j:Nat)(o:PA):PA:=a.extract 0 i++b.extract 0 j++o.reverse
abbrev F8(a b:PA)(i j:Nat)(o:PA):PA:=b.extract 0 j++a.extract 0 i++o.reverse
def Gk(a b:PA)(g:Nat)(i j:Nat)(o:PA)(m n:Nat):SM (ForInStep H1):=
 elem' b (j-1) >>= λy=>elem' a (i-1) >>= λx=>lt' y x >>= λt=>match t with
 |some t=>if t=true then elem' a (i-1) >>= λx=>
   if(i-1==0)=true then pure (.done (some (BB a b (i-1) j (o.push x)),i-1,j,o.push x,m+1,0))
   else if m+1≥g then pure (.done (none,i-1,j,o.push x,m+1,0)) else pure (.yield (none,i-1,j,o.push x,m+1,0))
  else elem' b (j-1) >>= λy=>
   if(j-1==1)=true then pure (.done (some (F8 a b i (j-1) (o.push y)),i,j-1,o.push y,0,n+1))
   else if n+1≥g then pure (.done (none,i,j-1,o.push y,0,n+1)) else pure (.yield (none,i,j-1,o.push y,0,n+1))
 |_=>pure (.done (some (BB a b i j o),i,j,o,m,n))
def Hb(a b:PA)(i j:Nat)(o:PA)(g m n:Nat):SM (ForInStep H2):=
 elem' a (i-1) >>= λx=>if(i-1==0)=true then pure (.done (some (BB a b (i-1) j (o.push x)),i-1,j,o.push x,g,m,n))
  else if(decide (m<7)&&decide (n<7))=true then pure (.done (none,i-1,j,o.push x,g,m,n)) else pure (.yield (none,i-1,j,o.push x,g,m,n))
def G6(a b:PA)(i j:Nat)(o:PA)(g m n:Nat):SM (ForInStep H2):=
 elem' b (j-1) >>= λy=>if(j-1==1)=true then pure (.done (some (F8 a b i (j-1) (o.push y)),i,j-1,o.push y,g,m,n))
  else elem' a (i-1) >>= λx=>gR true x b 0 (j-1) (j-1-1) >>= λt=>match t with
  |some k=>if j-1-k>0 then
    if(k==1)=true then pure (.done (some (F8 a b i k (o.push y++(b.extract k (j-1)).reverse)),i,k,o.push y++(b.extract k (j-1)).reverse,g,m,j-1-k))
    else if(k==0)=true then pure (.done (some (BB a b i k (o.push y++(b.extract k (j-1)).reverse)),i,k,o.push y++(b.extract k (j-1)).reverse,g,m,j-1-k))
    else Hb a b i k (o.push y++(b.extract k (j-1)).reverse) g m (j-1-k)
   else Hb a b i (j-1) (o.push y) g m (j-1-k)
  |_=>pure (.done (some (BB a b i (j-1) (o.push y)),i,j-1,o.push y,g,m,n))
def ol(a b:PA)(i j:Nat)(o:PA)(g m n:Nat):SM (ForInStep H2):=
 lG g >>= λ_=>elem' b (j-1) >>= λy=>gR false y a 0 i (i-1) >>= λt=>match t with
  |some k=>if i-k>0 then
    if(k==0)=true then pure (.done (some (BB a b k j (o++(a.extract k i).reverse)),k,j,o++(a.extract k i).reverse,g,i-k,n))
    else G6 a b k j (o++(a.extract k i).reverse) g (i-k) n
   else G6 a b i j o g (i-k) n
  |_=>pure (.done (some (BB a b i j o),i,j,o,g,m,n))
def HP(a b:PA)(s:H0):SM (ForInStep H0):=
 forIn [0:a.size+b.size] ((none,s.2.1,s.2.2.1,s.2.2.2.1,0,0):H1) (λ_ t=>Gk a b s.2.2.2.2 t.2.1 t.2.2.1 t.2.2.2.1 t.2.2.2.2.1 t.2.2.2.2.2) >>= λt=>
 match t.1 with
 |some z=>pure (.done (some z,t.2.1,t.2.2.1,t.2.2.2.1,s.2.2.2.2))
 |none=>liftM (rule "list.sort.gallop") >>= λ_=>
  forIn [0:a.size+b.size] ((none,t.2.1,t.2.2.1,t.2.2.2.1,s.2.2.2.2+1,t.2.2.2.2.1,t.2.2.2.2.2):H2) (λ_ u=>
   if u.2.2.2.2.1>1 then ol a b u.2.1 u.2.2.1 u.2.2.2.1 (u.2.2.2.2.1-1) u.2.2.2.2.2.1 u.2.2.2.2.2.2 else ol a b u.2.1 u.2.2.1 u.2.2.2.1 u.2.2.2.2.1 u.2.2.2.2.2.1 u.2.2.2.2.2.2) >>= λu=>
  match u.1 with
  |some z=>pure (.done (some z,u.2.1,u.2.2.1,u.2.2.2.1,u.2.2.2.2.1))
  |none=>lG (u.2.2.2.2.1+1) >>= λ_=>pure (.yield (none,u.2.1,u.2.2.1,u.2.2.2.1,u.2.2.2.2.1+1))
def EB(a b:PA):SM PA:=
 liftM (rule "list.sort.merge-hi") >>= λ_=>elem' a (a.size-1) >>= λx=>
 if(a.size-1==0)=true then pure (BB a b (a.size-1) b.size #[x]) else if(b.size==1)=true then pure (F8 a b (a.size-1) b.size #[x]) else
 get >>= λst=>forIn [0:a.size+b.size] ((none,a.size-1,b.size,#[x],gallopOf st):H0) (λ_ s=>HP a b s) >>= λs=>
 match s.1 with
 |some z=>pure z
 |none=>liftM (unsupported "internal:list.sort.merge-bound":Sem PA)
theorem v8(a b:PA):vn a b=EB a b:=by
 refine aO rfl λ_=>aO rfl λy=>dC rfl (dC rfl (aO rfl λst=>aO (gv λ_ s=>?_) λs=>?_))
 ·refine aO (gv λ_ t=>?_) λt=>?_
  ·refine aO rfl λy=>aO rfl λx=>aO rfl λt=>?_
   rfl
  ·obtain⟨z,t⟩:=t
   cases z with
   |some z=>rfl
   |none=>
    refine aO rfl λ_=>aO (gv λ_ u=>dC ?_ ?_) λu=>?_
    ·rfl
    ·rfl
    ·obtain⟨z,u⟩:=u
     cases z<;>rfl
 ·obtain⟨z,s⟩:=s
  cases z<;>rfl
section
variable {prog:L8}{w:Mb}{A:Ma}{E:LV}{J:Shared->Prop}{a₀:Array Keyed}{kd:SortKind}{r:Keyed->Nat}{a b:PA}
abbrev Bh(r:Keyed->Nat):Keyed->Keyed->Prop:=λp q=>r q<=r p
theorem ge{l:List Keyed}(h:l.Pairwise (gH r)):l.reverse.Pairwise (Bh r):=List.pairwise_reverse.mpr h
theorem Cc{α:Type}(a:Array α)(i:Nat):(a.extract 0 i).toList=a.toList.take i:=by
 rw[Array.toList_extract];simp[List.extract]
theorem ya{α:Type}(a:Array α){k i:Nat}(h:k<=i):(a.extract k i).reverse.toList=((a.toList.take i).drop k).reverse:=by
 rw[Array.toList_reverse,Array.toList_extract];simp only[List.extract];rw[<- List.drop_take]
theorem fN(a:PA)(s:a.toList.Pairwise (gH r)){i:Nat}(h0:0<i)(h:i<=a.toList.length) :
  ∃x,a[i-1]?=some x/\(a.toList.take i).reverse=x::(a.toList.take (i-1)).reverse/\x∈a.toList/\∀q,q∈a.toList.take i->r q<=r x:=by
 have e:a.toList.take i=a.toList.take (i-1)++[a.toList[i-1]]:=by
  have:=List.take_succ_eq_append_getElem (l:=a.toList) (i:=i-1) ⋯
  rwa [show i-1+1=i by omega]at this
 refine⟨a.toList[i-1],?_,by rw[e,LF];rfl,K_ _,λq hq=>?_⟩
 ·rw[<- q0G,K0 ⋯]
 ·have b:=s.sublist (List.take_sublist i _)
  rw[e]at b hq;rcases Ld.mp hq with hq | hq
  ·exact(List.pairwise_append.mp b).2.2 q hq _ (List.mem_singleton_self _)
  ·rw[K4.mp hq];exact Ln _
structure MH(prog:L8)(w:Mb)(A:Ma)(J:Shared->Prop)(a₀:PA)(kd:SortKind)(r:Keyed->Nat)(a b:PA):Prop where
 C:qf prog w A J a₀ kd r
 ha:∀p,p∈a.toList->p∈a₀.toList
 hb:∀p,p∈b.toList->p∈a₀.toList
 sa:a.toList.Pairwise (gH r)
 sb:b.toList.Pairwise (gH r)
 h0:∀y,b[0]?=some y->∀q,q∈a.toList->r y<=r q
abbrev vg(r:Keyed->Nat)(a b o:PA)(i j:Nat):Prop:=MI (Bh r) a.toList.reverse b.toList.reverse o.toList (a.toList.take i).reverse (b.toList.take j).reverse
structure jn(r:Keyed->Nat)(a b o:PA)(i j:Nat):Prop where
 mi:vg r a b o i j
 hi:0<i
 hi':i<=a.toList.length
 hj:1<j
 hj':j<=b.toList.length
def PH(r:Keyed->Nat)(a b:PA)(k:Nat)(z:Option PA)(i j:Nat)(o:PA):Prop:=match z with
 |some z=>iT r a b z
 |none=>jn r a b o i j/\k<=o.size
theorem jn.lt(h:jn r a b o i j):o.size<a.size+b.size:=by
 have:=h.mi.len;have h1:=h.hi;have h2:=h.hj;have d:=h.hi';have c:=h.hj'
 simp at this d c;omega
theorem oo{z:PA}{l:List Keyed}(e:z.toList=l.reverse)(h:l.Pairwise (Bh r)/\l.Perm (a.toList.reverse++b.toList.reverse)):iT r a b z:=by
 unfold iT;rw[e]
 exact⟨List.pairwise_reverse.mpr h.1,(List.reverse_perm _).trans (h.2.trans ((List.reverse_perm _).append (List.reverse_perm _)))⟩
theorem GE(m:MH prog w A J a₀ kd r a b){o:PA}{i j:Nat}(h:vg r a b o i j)(hj:i=0\/j=0):iT r a b (BB a b i j o):=by
 rcases hj with rfl | rfl
 ·have c:MI (Bh r) a.toList.reverse b.toList.reverse o.toList [] (b.toList.take j).reverse:=h
  exact oo (by simp only[BB,q0V,Cc,Array.toList_reverse,LF,LG,List.take_zero,LO]) (c.finY (ge m.sb))
 ·have c:MI (Bh r) a.toList.reverse b.toList.reverse o.toList (a.toList.take i).reverse []:=h
  exact oo (by simp only[BB,q0V,Cc,Array.toList_reverse,LF,LG,List.take_zero,Ly]) (c.finX (ge m.sa))
theorem G5(m:MH prog w A J a₀ kd r a b){o:PA}{i j:Nat}(h:vg r a b o i j)(hj:j=1)(hb:0<b.toList.length):iT r a b (F8 a b i j o):=by
 subst hj;obtain⟨y,n,k,e3,e4⟩:=fN b m.sb (i:=1) ⋯ ⋯;have c:(b.toList.take 1).reverse=[y]:=by rw[k];rfl
 have e:MI (Bh r) a.toList.reverse b.toList.reverse o.toList (a.toList.take i).reverse [y]:=by rw[<- c];exact h
 have g:b.toList.take 1=[y]:=by have:=q0R List.reverse c;simpa using this
 refine oo (l:=o.toList++((a.toList.take i).reverse++[y])) ?_ ?_
 ·simp only[F8,q0V,Cc,Array.toList_reverse,LF,LG,g,List.reverse_singleton,Lz]
 ·have:=e.swap.lastX (ge m.sa) λq d=>m.h0 y n q (q0H (List.mem_reverse.mp d))
  exact⟨this.1,this.2.trans List.perm_append_comm⟩
theorem GR(m:MH prog w A J a₀ kd r a b){st:SortSt}(hk:kindOf st=kd){o:PA}{i j g u v:Nat}(h:jn r a b o i j) :
  eY (model prog w) A E J (Gk a b g i j o u v) (λt st'=>st'=st/\match t with
   | .done s=>PH r a b (o.size+1) s.1 s.2.1 s.2.2.1 s.2.2.2.1
   | .yield s=>s.1=none/\PH r a b (o.size+1) s.1 s.2.1 s.2.2.1 s.2.2.2.1) st:=by
 unfold Gk;have h1:=h.hi;have h2:=h.hj;have p:=h.hi';have n:=h.hj'
 obtain⟨y,z,I,G,D⟩:=fN b m.sb (i:=j) ⋯ n;obtain⟨x,B,O,M,L⟩:=fN a m.sa (i:=i) ⋯ p;refine ar (ci z (ar (ci B (ar (Cm m.C (m.hb _ G) (m.ha _ M) hk ?_)))));dsimp only;have mi:MI (Bh r) a.toList.reverse b.toList.reverse o.toList (a.toList.take i).reverse (b.toList.take j).reverse:=h.mi
 by_cases l:r y<r x
 ·rw[q07 (q09 l)]
  refine ar (ci B ?_);rw[O]at mi;have c:vg r a b (o.push x) (i-1) j:=by
   unfold vg;rw[Array.toList_push]
   exact mi.oneX (ge m.sa) λq k=>by have:=D q (List.mem_reverse.mp k);show r q<=r x;omega
  by_cases d:(i-1==0)=true
  ·rw[q07 d];exact ay ⟨rfl,GE m c (.inl (eq_of_beq d))⟩
  ·rw[q06 d]
   have e:jn r a b (o.push x) (i-1) j:=⟨c,by have:=cH d;omega,⋯,h2,n⟩
   split
   ·exact ay ⟨rfl,e,by simp⟩
   ·exact ay ⟨rfl,rfl,e,by simp⟩
 ·rw[q06 (by simpa using l)]
  refine ar (ci z ?_);rw[I]at mi;have c:vg r a b (o.push y) i (j-1):=by
   unfold vg;rw[Array.toList_push]
   exact mi.oneY (ge m.sb) λq k=>by have:=L q (List.mem_reverse.mp k);show r q<=r y;omega
  by_cases d:(j-1==1)=true
  ·rw[q07 d];exact ay ⟨rfl,G5 m c (eq_of_beq d) ⋯⟩
  ·rw[q06 d]
   have e:jn r a b (o.push y) i (j-1):=⟨c,h1,p,by have:=cH d;omega,⋯⟩
   split
   ·exact ay ⟨rfl,e,by simp⟩
   ·exact ay ⟨rfl,rfl,e,by simp⟩
theorem EI(m:MH prog w A J a₀ kd r a b){st:SortSt}{o:PA}{i j g u v k:Nat}(h:jn r a b o i j)(hk:k<=o.size)(hx:∀x,a[i-1]?=some x->∀q,q∈b.toList.take j->r q<=r x) :
  eY (model prog w) A E J (Hb a b i j o g u v) (λt st'=>st'=st/\match t with
   | .done s=>PH r a b (k+1) s.1 s.2.1 s.2.2.1 s.2.2.2.1
   | .yield s=>s.1=none/\PH r a b (k+1) s.1 s.2.1 s.2.2.1 s.2.2.2.1) st:=by
 unfold Hb;have h1:=h.hi;have h2:=h.hj;have y:=h.hi';have p:=h.hj'
 obtain⟨x,l,z,a3,a4⟩:=fN a m.sa (i:=i) ⋯ y;refine ar (ci l ?_);have mi:MI (Bh r) a.toList.reverse b.toList.reverse o.toList (a.toList.take i).reverse (b.toList.take j).reverse:=h.mi;rw[z]at mi;have c:vg r a b (o.push x) (i-1) j:=by
  unfold vg;rw[Array.toList_push];exact mi.oneX (ge m.sa) λq n=>hx x l q (List.mem_reverse.mp n)
 by_cases d:(i-1==0)=true
 ·rw[q07 d];exact ay ⟨rfl,GE m c (.inl (eq_of_beq d))⟩
 ·rw[q06 d]
  have e:jn r a b (o.push x) (i-1) j:=⟨c,by have:=cH d;omega,⋯,h2,p⟩
  split
  ·exact ay ⟨rfl,e,by simp;omega⟩
  ·exact ay ⟨rfl,rfl,e,by simp;omega⟩
theorem qS(l:List Keyed){k i:Nat}(h:k<=i):(l.take i).reverse=((l.take i).drop k).reverse++(l.take k).reverse:=by
 rw[<- LF];have:=List.take_append_drop k (l.take i);rw[List.take_take,LS h]at this;rw[this]
theorem EM(m:MH prog w A J a₀ kd r a b){st:SortSt}(hk:kindOf st=kd){o:PA}{i j g u v k:Nat}(h:jn r a b o i j)(hz:k<=o.size)(hy:∀y,b[j-1]?=some y->∀q,q∈a.toList.take i->r q<=r y) :
  eY (model prog w) A E J (G6 a b i j o g u v) (λt st'=>st'=st/\match t with
   | .done s=>PH r a b (k+1) s.1 s.2.1 s.2.2.1 s.2.2.2.1
   | .yield s=>s.1=none/\PH r a b (k+1) s.1 s.2.1 s.2.2.1 s.2.2.2.1) st:=by
 unfold G6;have h1:=h.hi;have h2:=h.hj;have M:=h.hi';have h4:=h.hj'
 obtain⟨y,U,b2,b3,b4⟩:=fN b m.sb (i:=j) ⋯ h4;obtain⟨x,O,a2,a3,a4⟩:=fN a m.sa (i:=i) ⋯ M;refine ar (ci U ?_);have mi:MI (Bh r) a.toList.reverse b.toList.reverse o.toList (a.toList.take i).reverse (b.toList.take j).reverse:=h.mi;rw[b2]at mi;have c:vg r a b (o.push y) i (j-1):=by
  unfold vg;rw[Array.toList_push];exact mi.oneY (ge m.sb) λq d=>hy y U q (List.mem_reverse.mp d)
 by_cases G:(j-1==1)=true
 ·rw[q07 G];exact ay ⟨rfl,G5 m c (eq_of_beq G) ⋯⟩
 ·rw[q06 G]
  have hc':=cH G;refine ar (ci O (ar (qH m.C hk (m.ha _ a3) ⋯ ⋯ (by rw[LU];exact λp I=>m.hb p (q0H I)) (by rw[LU];exact m.sb.sublist (List.take_sublist _ _)) λe L T S=>?_)));rw[LU]at T S;dsimp only;have g1:∀p,p∈((b.toList.take (j-1)).drop e).reverse->∀q,q∈(a.toList.take i).reverse->r q<=r p:=λp I q d=>by
   have Z:r x<=r p:=lO (S p (List.mem_reverse.mp I));have:=a4 q (List.mem_reverse.mp d);omega
  have R:∀q,q∈b.toList.take e->r q<=r x:=λq d=>by
   have Z:r q<r x:=T q (by rw[List.take_take,LS L];exact d);omega
  by_cases B:j-1-e>0
  ·rw[q07 B]
   have z:vg r a b (o.push y++(b.extract e (j-1)).reverse) i e:=by
    unfold vg at c ⊢;rw[q0V,ya b L];rw[qS b.toList L]at c;exact c.takeY (ge m.sb) g1
   by_cases n:(e==1)=true
   ·rw[q07 n];exact ay ⟨rfl,G5 m z (eq_of_beq n) ⋯⟩
   ·rw[q06 n]
    by_cases l:(e==0)=true
    ·rw[q07 l];exact ay ⟨rfl,GE m z (.inr (eq_of_beq l))⟩
    ·rw[q06 l]
     exact EI m ⟨z,h1,M,by have:=cH n;have:=cH l;omega,⋯⟩ (by simp;omega) λY D q d=>by rw[O]at D;cases D;exact R q d
  ·rw[q06 B]
   have e0:e=j-1:=by omega
   subst e0;exact EI m ⟨c,h1,M,⋯,⋯⟩ (by simp;omega) λY D q d=>by rw[O]at D;cases D;exact R q d
theorem Gn(m:MH prog w A J a₀ kd r a b){st:SortSt}(hk:kindOf st=kd){o:PA}{i j g u v:Nat}(h:jn r a b o i j) :
  eY (model prog w) A E J (ol a b i j o g u v) (λt st'=>SG st st'/\match t with
   | .done s=>PH r a b (o.size+1) s.1 s.2.1 s.2.2.1 s.2.2.2.1
   | .yield s=>s.1=none/\PH r a b (o.size+1) s.1 s.2.1 s.2.2.1 s.2.2.2.1) st:=by
 unfold ol;refine ar (ni λst' z=>?_);have d:kindOf st'=kd:=z.1.trans hk;have h1:=h.hi;have h2:=h.hj;have h3:=h.hi';have L:=h.hj'
 obtain⟨y,I,b2,b3,Z⟩:=fN b m.sb (i:=j) ⋯ L;refine ar (ci I (ar (qH m.C d (m.hb _ b3) ⋯ ⋯ (by rw[LU];exact λp D=>m.ha p (q0H D)) (by rw[LU];exact m.sa.sublist (List.take_sublist _ _)) λe G R O=>?_)));rw[LU]at R O;dsimp only;have U:∀p,p∈((a.toList.take i).drop e).reverse->∀q,q∈(b.toList.take j).reverse->r q<=r p:=λp D q c=>by
  have q1:r y<r p:=lO (O p (List.mem_reverse.mp D));have:=Z q (List.mem_reverse.mp c);omega
 have M:∀q,q∈a.toList.take e->r q<=r y:=λq c=>R q (by rw[List.take_take,LS G];exact c)
 by_cases n:i-e>0
 ·rw[q07 n]
  have l:vg r a b (o++(a.extract e i).reverse) e j:=by
   have mi:=h.mi;unfold vg at mi ⊢;rw[q0V,ya a G];rw[qS a.toList G]at mi;exact mi.takeX (ge m.sa) U
  by_cases B:(e==0)=true
  ·rw[q07 B];exact ay ⟨z,GE m l (.inl (eq_of_beq B))⟩
  ·rw[q06 B]
   exact bC (EM (k:=o.size) m d ⟨l,by have:=cH B;omega,⋯,h2,L⟩ (by simp) λS x q c=>by rw[I]at x;cases x;exact M q c) λt T q=>⟨by rw[q.1];exact z,q.2⟩
 ·rw[q06 n]
  have Y:e=i:=by omega
  subst Y;exact bC (EM (k:=o.size) m d h (Ln _) λS x q c=>by rw[I]at x;cases x;exact M q c) λt T q=>⟨by rw[q.1];exact z,q.2⟩
theorem Gy(m:MH prog w A J a₀ kd r a b){st:SortSt}(hk:kindOf st=kd){s:H0}(h:jn r a b s.2.2.2.1 s.2.1 s.2.2.1) :
  eY (model prog w) A E J (HP a b s) (λt st'=>SG st st'/\match t with
   | .done u=>∃z,u.1=some z/\iT r a b z
   | .yield u=>u.1=none/\jn r a b u.2.2.2.1 u.2.1 u.2.2.1/\s.2.2.2.1.size+1<=u.2.2.2.1.size) st:=by
 unfold HP;refine ar (bC (d_ (I:=λx c st'=>st'=st/\c.1=none/\jn r a b c.2.2.2.1 c.2.1 c.2.2.1/\s.2.2.2.1.size+x<=c.2.2.2.1.size)
  (Q:=λc st'=>st'=st/\PH r a b (s.2.2.2.1.size+1) c.1 c.2.1 c.2.2.1 c.2.2.2.1) ?s1 ?e1 ⟨rfl,rfl,h,Ln _⟩) ?p1)
 case e1=>
  rintro c st' ⟨rfl,D,k,C⟩;have:=k.lt;omega
 case s1=>
  rintro x c st' _ C ⟨rfl,D,k,G⟩;refine bC (GR m hk k) λt d q=>?_;obtain⟨rfl,q⟩:=q;cases t with
  |done u=>
   refine⟨rfl,?_⟩;dsimp only at q
   revert q;unfold PH;cases u.1 with
   |some z=>exact id
   |none=>exact λq=>⟨q.1,by have:=q.2;omega⟩
  |yield u=>
   obtain⟨y,p⟩:=q;rw[y]at p;exact⟨rfl,y,p.1,by have:=p.2;omega⟩
 case p1=>
  rintro⟨z,i,j,o,u,v⟩ st' ⟨rfl,q⟩;cases z with
  |some z=>exact ay ⟨SG.refl _,z,rfl,q⟩
  |none=>
   obtain⟨k,G⟩:=q;dsimp only;refine ar (jZ λ_ L=>wpAny_rule ⟨L,?_⟩);refine ar (bC (d_ (I:=λx c d=>SG st' d/\c.1=none/\jn r a b c.2.2.2.1 c.2.1 c.2.2.1/\s.2.2.2.1.size+1<=c.2.2.2.1.size)
    (Q:=λc d=>SG st' d/\PH r a b (s.2.2.2.1.size+1) c.1 c.2.1 c.2.2.1 c.2.2.2.1) ?s2 ?e2 ⟨SG.refl _,rfl,k,G⟩) ?p2)
   case e2=>
    rintro c d ⟨n,D,k,C⟩;exact⟨n,by rw[D];exact⟨k,C⟩⟩
   case s2=>
    rintro x c d _ C ⟨n,D,k,G⟩;have B:∀g,eY (model prog w) A E J (ol a b c.2.1 c.2.2.1 c.2.2.2.1 g c.2.2.2.2.2.1 c.2.2.2.2.2.2) (λt e=>match t with
      | .done c'=>SG st' e/\PH r a b (s.2.2.2.1.size+1) c'.1 c'.2.1 c'.2.2.1 c'.2.2.2.1
      | .yield c'=>SG st' e/\c'.1=none/\jn r a b c'.2.2.2.1 c'.2.1 c'.2.2.1/\s.2.2.2.1.size+1<=c'.2.2.2.1.size) d:=by
     intro g;refine bC (Gn m (n.1.trans hk) k) λt e q=>?_;obtain⟨l,q⟩:=q;cases t with
     |done u=>
      refine⟨n.trans l,?_⟩;dsimp only at q
      revert q;unfold PH;cases u.1 with
      |some z=>exact id
      |none=>exact λq=>⟨q.1,by have:=q.2;omega⟩
     |yield u=>
      obtain⟨y,p⟩:=q;rw[y]at p;exact⟨n.trans l,y,p.1,by have:=p.2;omega⟩
    split
    ·exact bC (B _) λt e q=>by cases t<;>exact q
    ·exact bC (B _) λt e q=>by cases t<;>exact q
   case p2=>
    rintro⟨z,i2,j2,o2,g2,u2,v2⟩ d ⟨n,q⟩;cases z with
    |some z=>exact ay ⟨n,z,rfl,q⟩
    |none=>exact ar (ni λe l=>ay ⟨n.trans l,rfl,q.1,q.2⟩)
theorem zU(m:MH prog w A J a₀ kd r a b){st:SortSt}(hk:kindOf st=kd){Q:PA->SortSt->Prop}(hl:∀x,a[a.size-1]?=some x->∀q,q∈b.toList->r q<=r x)
  (na:0<a.toList.length) (nb:0<b.toList.length) (h:∀l st',SG st st'->iT r a b l->Q l st'):eY (model prog w) A E J (vn a b) Q st:=by
 rw[v8];unfold EB
 obtain⟨x,B,D,a3,a4⟩:=fN a m.sa (i:=a.toList.length) na (Ln _);have C:a.toList.length=a.size:=by simp
 have y:b.toList.length=b.size:=by simp
 rw[C]at B D;refine ar (jZ λs j=>wpAny_rule ⟨j,ar (ci B ?_)⟩);have o:vg r a b #[x] (a.size-1) b.size:=by
  have h1:=MI.start (le:=Bh r) a.toList.reverse b.toList.reverse;have O:a.toList.reverse=x::(a.toList.take (a.size-1)).reverse:=by rw[<- D,<- C,LB]
  have h2:MI (Bh r) a.toList.reverse b.toList.reverse [] (x::(a.toList.take (a.size-1)).reverse) b.toList.reverse:=by rw[<- O];exact h1
  have M:=h2.oneX (ge m.sa) λq L=>hl x B q (List.mem_reverse.mp L);unfold vg;rw[show b.toList.take b.size=b.toList by rw[<- y,LB]];exact M
 by_cases n:(a.size-1==0)=true
 ·rw[q07 n];exact ay (h _ _ (SG.refl _) (GE m o (.inl (eq_of_beq n))))
 ·rw[q06 n]
  by_cases d:(b.size==1)=true
  ·rw[q07 d];exact ay (h _ _ (SG.refl _) (G5 m o (eq_of_beq d) nb))
  ·rw[q06 d]
   refine ar (gB ?_);refine ar (bC (d_ (I:=λx c st'=>SG st st'/\c.1=none/\jn r a b c.2.2.2.1 c.2.1 c.2.2.1/\x+1<=c.2.2.2.1.size)
    (Q:=λc st'=>SG st st'/\∃z,c.1=some z/\iT r a b z) ?s ?e ⟨SG.refl _,rfl,⟨o,by have:=cH n;show 0<a.size-1;omega,by show a.size-1<=_;omega,by have:=cH d;show 1<b.size;omega,by show b.size<=_;omega⟩,by simp⟩) ?p)
   case e=>
    rintro c st' ⟨_,R,v,G⟩;have:=v.lt;omega
   case s=>
    rintro x c st' _ G ⟨k,R,v,hz⟩;refine bC (Gy m (k.1.trans hk) v) λt st2 q=>?_;obtain⟨g,q⟩:=q;cases t with
    |done u=>exact⟨k.trans g,q⟩
    |yield u=>exact⟨k.trans g,q.1,q.2.1,by have:=q.2.2;omega⟩
   case p=>
    rintro⟨z,u⟩ st' ⟨k,z',e,q⟩;dsimp only at e;subst e;exact ay (h _ _ k q)
end
section
variable {prog:L8}{w:Mb}{A:Ma}{E:LV}{J:Shared->Prop}{a₀:Array Keyed}{kd:SortKind}{r:Keyed->Nat}
theorem yE(s:Nat):∀(l:List Keyed) (n:Nat) (arr:PA),s+n+l.length<=arr.toList.length ->
  ((l.zipIdx n).foldl (λa (x:Keyed×Nat)=>a.setIfInBounds (s+x.2) x.1) arr).toList=arr.toList.take (s+n)++l++arr.toList.drop (s+n+l.length)
 | [],n,arr,h=>by simp
 |p::l,n,arr,h=>by
  rw[List.zipIdx_cons,List.foldl_cons,yE s l (n+1) _ (by simp at h ⊢;omega),Array.toList_setIfInBounds];dsimp only;have hlt:s+n<arr.toList.length:=by simp at h ⊢;omega
  have c:(arr.toList.set (s+n) p).take (s+(n+1))=arr.toList.take (s+n)++[p]:=by
   rw[show s+(n+1)=(s+n)+1 by omega,List.take_succ_eq_append_getElem (by simpa using hlt),List.take_set_of_le (Ln _),List.getElem_set_self]
  have b:(arr.toList.set (s+n) p).drop (s+(n+1)+l.length)=arr.toList.drop (s+n+(p::l).length):=by
   rw[List.drop_set_of_lt ⋯];congr 1;simp;omega
  rw[c,b];simp
structure SB(a₀:PA)(kd:SortKind)(st:SortSt):Prop where
 perm:(arrOf st).toList.Perm a₀.toList
 kind:kindOf st=kd
 failed:failedOf st=none
theorem rE{l u x v:List Keyed}(e:l=u++(x++v)):(l.drop u.length).take x.length=x:=by
 rw[e,List.drop_left,List.take_left]
theorem zo{st:SortSt}{Q:Bool->SortSt->Prop}(C:qf prog w A J a₀ kd r)(B:SB a₀ kd st){p1 p2:List (Nat×Nat×Nat)}{pw pw':Nat}{u x y v:List Keyed}
  (hp:(pendingOf st).toList=p1++(u.length,x.length,pw)::(u.length+x.length,y.length,pw')::p2) (ha:(arrOf st).toList=u++(x++(y++v)))
  (hx:x≠[]) (hy:y≠[]) (sx:x.Pairwise (gH r)) (sy:y.Pairwise (gH r))
  (h:∀st' z,SB a₀ kd st'->(pendingOf st').toList=p1++(u.length,x.length+y.length,pw)::p2->(arrOf st').toList=u++(z++v)->z.Perm (x++y)->z.Pairwise (gH r)->Q true st') :
  eY (model prog w) A E J (mergeAt' p1.length) Q st:=by
 unfold mergeAt';refine ar (gB ?_);have e1:(pendingOf st)[p1.length]?=some (u.length,x.length,pw):=by rw[<- q0G,hp];simp
 have e2:(pendingOf st)[p1.length+1]?=some (u.length+x.length,y.length,pw'):=by rw[<- q0G,hp];simp
 have hL:u.length+x.length+y.length<=(arrOf st).toList.length:=by rw[ha];simp;omega
 have mem:∀p,p∈x++y->p∈a₀.toList:=λp c=>B.perm.mem_iff.mp (by
  rw[ha];rcases Ld.mp c with q | q<;>simp[q])
 obtain⟨d,g,rfl⟩:∃d g,y=d::g:=by cases y with | nil=>exact q0Q rfl hy | cons p q=>exact⟨p,q,rfl⟩
 have ey:(arrOf st)[u.length+x.length]?=some d:=by rw[<- q0G,ha,Lk ⋯,Lk ⋯];simp
 have a0:0<x.length:=List.length_pos_iff.mpr hx;have ex:(arrOf st)[u.length+x.length-1]?=some (x[x.length-1]'⋯):=by
  rw[<- q0G,ha,Lk ⋯,Ll ⋯,K0 ⋯];congr 2;omega
 generalize L:(x[x.length-1]'⋯)=xl at ex;have a1:xl∈x:=by rw[<- L];exact K_ _
 have lst:∀p,p∈x->r p<=r xl:=λp c=>by
  obtain⟨t,ht,e⟩:=List.mem_iff_getElem.mp c;rw[<- e,<- L];rcases Nat.lt_or_ge t (x.length-1) with q | q
  ·exact(List.pairwise_iff_getElem.mp sx) _ _ _ _ q
  ·have:t=x.length-1:=by omega
   subst this;exact Ln _
 have hd:∀q,q∈d::g->r d<=r q:=λq hq=>by
  rcases Lf.mp hq with rfl | hq
  ·exact Ln _
  ·exact(List.pairwise_cons.mp sy).1 q hq
 have D:((arrOf st).toList.drop u.length).take x.length=x:=rE ha;have o:((arrOf st).toList.drop (u.length+x.length)).take (d::g).length=d::g:=by
  have:=rE (l:=(arrOf st).toList) (u:=u++x) (x:=d::g) (v:=v) (by rw[ha];simp)
  rwa [Lm]at this
 have j:(((pendingOf st).setIfInBounds p1.length (u.length,x.length+(d::g).length,pw)).eraseIdxIfInBounds (p1.length+1)).toList=p1++(u.length,x.length+(d::g).length,pw)::p2:=by
  rw[Array.toList_eraseIdxIfInBounds,Array.toList_setIfInBounds,hp];simp[List.eraseIdx_append_of_length_le]
 have m:∀st',SB a₀ kd st'->(pendingOf st').toList=p1++(u.length,x.length+(d::g).length,pw)::p2->arrOf st'=arrOf st->(∀p,p∈x->∀q,q∈d::g->r p<=r q)->Q true st':=λst' B' p' a' q=>
  h st' (x++(d::g)) B' p' (by rw[a',ha,Lz]) (List.Perm.refl _) (List.pairwise_append.mpr ⟨sx,sy,q⟩)
 dsimp only;rw[e1,e2];dsimp only;refine ar (GN ?_);refine ar (ci ey (ar (qH C B.kind (mem _ (by simp)) a0 (by show u.length+x.length<=(arrOf st).toList.length;omega) (by rw[D];exact λp q=>mem p (q0D _ q)) (by rw[D];exact sx) λk hk f1 f2=>?_)));rw[D]at f1 f2;dsimp only;have g1:∀p,p∈x.take k->r p<=r d:=f1;have g2:∀p,p∈x.drop k->r d<r p:=λp c=>lO (f2 p c)
 by_cases Z:(x.length-k==0)=true
 ·rw[q07 Z]
  have:x.take k=x:=q0F (by have:=eq_of_beq Z;omega);rw[this]at g1;exact ay (m _ ⟨B.perm,B.kind,B.failed⟩ j rfl λp c q hq=>Lv (g1 p c) (hd q hq))
 ·rw[q06 Z]
  have hc':=cH Z;refine ar (ci (p:=xl) (by rw[show u.length+k+(x.length-k)-1=u.length+x.length-1 by omega];exact ex) (ar (qH C B.kind (mem _ (q0D _ a1)) (by simp) (by simpa using hL) (by rw[o];exact λp q=>mem p (q0C _ q)) (by rw[o];exact sy) λn hn f3 f4=>?_)));rw[o]at f3 f4;dsimp only;have g3:∀p,p∈(d::g).take n->r p<r xl:=f3;have g4:∀p,p∈(d::g).drop n->r xl<=r p:=λp c=>lO (f4 p c)
  by_cases G:(n==0)=true
  ·rw[q07 G]
   have e0:n=0:=eq_of_beq G;subst e0;exact ay (m _ ⟨B.perm,B.kind,B.failed⟩ j rfl λp c q hq=>Lv (lst p c) (g4 q hq))
  ·rw[q06 G]
   have hn0':=cH G;have R:((arrOf st).extract (u.length+k) (u.length+x.length)).toList=x.drop k:=by
    rw[show u.length+x.length=(u.length+k)+(x.length-k) by omega,m6,<- List.drop_drop,<- List.drop_take,D]
   have O:((arrOf st).extract (u.length+x.length) (u.length+x.length+n)).toList=(d::g).take n:=by
    rw[m6];have:=q0R (List.take n) o
    rwa [List.take_take,LS hn]at this
   generalize(arrOf st).extract (u.length+k) (u.length+x.length)=aa at R ⊢;generalize(arrOf st).extract (u.length+x.length) (u.length+x.length+n)=bb at O ⊢;have la:aa.toList.length=x.length-k:=by rw[R,LD]
   have lb:bb.toList.length=n:=by rw[O,LC];omega
   have h0:∀y,bb[0]?=some y->∀q,q∈aa.toList->r y<=r q:=λy e q hq=>by
    rw[<- q0G,O]at e;have:y=d:=by
     rw[List.getElem?_take,q07 ⋯]at e;exact(q0S e).symm
    subst this;rw[R]at hq;exact q0P (g2 q hq)
   have hl:∀z,aa[aa.toList.length-1]?=some z->∀q,q∈bb.toList->r q<=r z:=λz e q hq=>by
    rw[<- q0G,la,R,List.getElem?_drop,show k+(x.length-k-1)=x.length-1 by omega,K0 ⋯,L]at e;cases e;rw[O]at hq;exact q0P (g3 q hq)
   have Y:∀p,p∈aa.toList->p∈a₀.toList:=λp c=>mem p (q0D _ (q0I (by rw[<- R];exact c)));have U:∀p,p∈bb.toList->p∈a₀.toList:=λp c=>mem p (q0C _ (q0H (by rw[<- O];exact c)));have T:aa.toList.Pairwise (gH r):=by rw[R];exact sx.sublist (List.drop_sublist _ _)
   have S:bb.toList.Pairwise (gH r):=by rw[O];exact sy.sublist (List.take_sublist _ _)
   have fin:∀(l:PA) (st':SortSt),kindOf st'=kd->arrOf st'=arrOf st->(pendingOf st').toList=p1++(u.length,x.length+(d::g).length,pw)::p2->failedOf st'=none->iT r aa bb l ->
     Q true (setArr st' (l.toList.zipIdx.foldl (λa (x:Keyed×Nat)=>a.setIfInBounds (u.length+k+x.2) x.1) (arrOf st'))):=by
    intro l st' k' a' p' M good;have i:=good.2;rw[R,O]at i;have ll:=i.length_eq;rw[Lm,LD,LC,LS hn]at ll;have ez:(l.toList.zipIdx.foldl (λa (x:Keyed×Nat)=>a.setIfInBounds (u.length+k+x.2) x.1) (arrOf st')).toList=u++((x.take k++l.toList++(d::g).drop n)++v):=by
     rw[yE (u.length+k) l.toList 0 _ (by rw[a'];omega),a',ha,ll];rw[show u.length+k+0=u.length+k by omega,List.take_length_add_append,List.take_append_of_le_length hk,
      show u.length+k+(x.length-k+n)=u.length+(x.length+n) by omega,List.drop_length_add_append,List.drop_length_add_append,List.drop_append_of_le_length hn]
     simp only[Lz]
    have zp:(x.take k++l.toList++(d::g).drop n).Perm (x++(d::g)):=by
     refine((i.append_left (x.take k)).append_right _).trans ?_;rw[<- Lz,List.take_append_drop,Lz,List.take_append_drop]
    refine h _ (x.take k++l.toList++(d::g).drop n) ⟨?_,k',M⟩ p' ez zp ?_
    ·have pz:(u++((x.take k++l.toList++(d::g).drop n)++v)).Perm a₀.toList:=by
      refine List.Perm.trans ?_ (show((arrOf st).toList).Perm _ from B.perm);rw[ha];refine List.Perm.append_left u ?_;rw[<- Lz x];exact zp.append_right v
     rw[<- ez]at pz;exact pz
    ·have ml:∀p,p∈l.toList->p∈x.drop k\/p∈(d::g).take n:=λp c=>Ld.mp (i.mem_iff.mp c)
     refine List.pairwise_append.mpr ⟨List.pairwise_append.mpr ⟨sx.sublist (List.take_sublist _ _),good.1,λp c q hq=>?_⟩,sy.sublist (List.drop_sublist _ _),λp c q hq=>?_⟩
     ·rcases ml q hq with q1 | q1
      ·exact Lv (g1 p c) (q0P (g2 q q1))
      ·exact Lv (g1 p c) (hd q (q0H q1))
     ·rcases Ld.mp c with q1 | q1
      ·exact Lv (lst p (q0H q1)) (g4 q hq)
      ·rcases ml p q1 with q2 | q2
       ·exact Lv (lst p (q0I q2)) (g4 q hq)
       ·exact Lv (q0P (g3 p q2)) (g4 q hq)
   split
   ·refine ar (zg (a:=aa) (b:=bb) ⟨C,Y,U,T,S,hl⟩ (by exact B.kind) h0 ⋯ ⋯ λl st' I good=>?_)
    refine ar (cU (ar (gB (ay ?_))));have M:failedOf st'=none:=I.2.2.2.trans B.failed;have:=fin l st' (I.1.trans B.kind) I.2.1 (by rw[I.2.2.1];exact j) M good;show Q (failedOf st').isNone _;rw[M];exact this
   ·refine ar (zU (a:=aa) (b:=bb) ⟨C,Y,U,T,S,h0⟩ (by exact B.kind) (by simpa using hl) ⋯ ⋯ λl st' I good=>?_)
    refine ar (cU (ar (gB (ay ?_))));have M:failedOf st'=none:=I.2.2.2.trans B.failed;have:=fin l st' (I.1.trans B.kind) I.2.1 (by rw[I.2.2.1];exact j) M good;show Q (failedOf st').isNone _;rw[M];exact this
end
abbrev As:=Option (Option Nat)×Nat
abbrev Ds:=Option (Option Nat)×Nat×Nat
def Ga(lo a n:Nat):SM As:=forIn [a:n] ((none,a):As) λ_ s=>ltAt' (lo+s.2) (lo+s.2-1) >>= λt=>match t with
 |some t=>if t=true then pure (.done (none,s.2)) else pure (.yield (none,s.2+1))
 |_=>pure (.done (some none,s.2))
def EF(lo m n:Nat):SM (Option Nat):=reverseSlice' lo (lo+m) >>= λ_=>Ga lo m n >>= λs=>match s.1 with
 |some z=>pure z
 |none=>pure (some s.2)
def Hd(lo m n:Nat):SM Ds:=forIn [m:n] ((none,m,0):Ds) λ_ s=>ltAt' (lo+s.2.1) (lo+s.2.1-1) >>= λt=>match t with
 |some t=>if t=true then
   if s.2.2>0 then reverseSlice' (lo+s.2.1-(s.2.2+1)) (lo+s.2.1) >>= λ_=>pure (.yield (none,s.2.1+1,0)) else pure (.yield (none,s.2.1+1,0))
  else ltAt' (lo+s.2.1-1) (lo+s.2.1) >>= λt=>match t with
   |some t=>if t=true then pure (.done (none,s.2.1,s.2.2)) else pure (.yield (none,s.2.1+1,s.2.2+1))
   |_=>pure (.done (some none,s.2.1,s.2.2))
 |_=>pure (.done (some none,s.2.1,s.2.2))
def F'(lo m n:Nat):SM (Option Nat):=liftM (rule "list.sort.descending-run") >>= λ_=>Hd lo (m+1) n >>= λs=>match s.1 with
 |some z=>pure z
 |none=>if s.2.2>0 then reverseSlice' (lo+s.2.1-(s.2.2+1)) (lo+s.2.1) >>= λ_=>EF lo s.2.1 n else EF lo s.2.1 n
def CV(lo n:Nat):SM (Option Nat):=Ga lo 1 n >>= λs=>match s.1 with
 |some z=>pure z
 |none=>if(s.2==n)=true then pure (some s.2) else if s.2>1 then ltAt' lo (lo+s.2-1) >>= λt=>match t with
   |some t=>if t=true then pure (some s.2) else reverseSlice' lo (lo+s.2) >>= λ_=>F' lo s.2 n
   |_=>pure none
  else F' lo s.2 n
theorem l9{β:Type}{rg:Std.Legacy.Range}{c:β}{f g:Nat->β->SM (ForInStep β)}(h:∀x s,f x s=g x s):(forIn rg c f:SM β)=forIn rg c g:=by
 rw[show f=g from funext λx=>funext λs=>h x s]
theorem rV(lo m n:Nat){f:As->SM (Option Nat)}(h:∀s,f s=match s.1 with | some z=>pure z | none=>pure (some s.2)){F:Nat->As->SM (ForInStep As)}
  (hF:∀x s,F x s=(ltAt' (lo+s.2) (lo+s.2-1) >>= λt=>match t with
   |some t=>if t=true then pure (.done (none,s.2)) else pure (.yield (none,s.2+1))
   |_=>pure (.done (some none,s.2)))):(reverseSlice' lo (lo+m) >>= λ_=>(forIn [m:n] ((none,m):As) F:SM As) >>= f)=EF lo m n:=by
 unfold EF Ga;exact aO rfl λ_=>aO (l9 hF) h
theorem uI(lo n:Nat):countRun' lo n=CV lo n:=by
 have a:∀(m:Nat) {G:Ds->SM (Option Nat)} {F:Nat->Ds->SM (ForInStep Ds)},
   (∀s:Ds,G s=match s.1 with
    |some z=>pure z
    |none=>if s.2.2>0 then reverseSlice' (lo+s.2.1-(s.2.2+1)) (lo+s.2.1) >>= λ_=>EF lo s.2.1 n else EF lo s.2.1 n) ->
   (∀x s,F x s=(ltAt' (lo+s.2.1) (lo+s.2.1-1) >>= λt=>match t with
    |some t=>if t=true then
      if s.2.2>0 then reverseSlice' (lo+s.2.1-(s.2.2+1)) (lo+s.2.1) >>= λ_=>pure (.yield (none,s.2.1+1,0)) else pure (.yield (none,s.2.1+1,0))
     else ltAt' (lo+s.2.1-1) (lo+s.2.1) >>= λt=>match t with
      |some t=>if t=true then pure (.done (none,s.2.1,s.2.2)) else pure (.yield (none,s.2.1+1,s.2.2+1))
      |_=>pure (.done (some none,s.2.1,s.2.2))
    |_=>pure (.done (some none,s.2.1,s.2.2)))) ->
   ((liftM (rule "list.sort.descending-run"):SM Unit) >>= λ_=>(forIn [m+1:n] ((none,m+1,0):Ds) F:SM Ds) >>= G)=F' lo m n:=by
  intro m G F b c;unfold F' Hd;exact aO rfl λ_=>aO (l9 c) b
 unfold CV Ga;refine aO (l9 λx s=>rfl) λs=>?_;obtain⟨z,m⟩:=s;cases z with
 |some z=>rfl
 |none=>
  refine dC rfl (dC (aO rfl λt=>?_) ?_)
  ·cases t with
   |none=>rfl
   |some t=>
    refine dC rfl (aO rfl λ_=>a m (λs=>?_) λx s=>rfl);obtain⟨z,m,q⟩:=s;cases z with
    |some z=>rfl
    |none=>exact dC (aO rfl λ_=>rV lo m n (λs=>by obtain⟨z,m⟩:=s;cases z<;>rfl) λx s=>rfl) (rV lo m n (λs=>by obtain⟨z,m⟩:=s;cases z<;>rfl) λx s=>rfl)
  ·refine a m (λs=>?_) λx s=>rfl
   obtain⟨z,m,q⟩:=s;cases z with
   |some z=>rfl
   |none=>exact dC (aO rfl λ_=>rV lo m n (λs=>by obtain⟨z,m⟩:=s;cases z<;>rfl) λx s=>rfl) (rV lo m n (λs=>by obtain⟨z,m⟩:=s;cases z<;>rfl) λx s=>rfl)
section
variable {prog:L8}{w:Mb}{A:Ma}{E:LV}{J:Shared->Prop}{a₀:Array Keyed}{kd:SortKind}{r:Keyed->Nat}
def Kr(r:Keyed->Nat)(xs:PA)(i:Nat):Nat:=match xs[i]? with
 |some p=>r p
 |none=>0
theorem v3{xs ys:PA}{i j:Nat}(h:xs[i]?=ys[j]?):Kr r xs i=Kr r ys j:=by unfold Kr;rw[h]
def Up(r:Keyed->Nat)(xs:PA)(lo n:Nat):Prop:=∀i j,i<=j->j<n->Kr r xs (lo+i)<=Kr r xs (lo+j)
def Dn(r:Keyed->Nat)(xs:PA)(lo n:Nat):Prop:=∀i j,i<=j->j<n->Kr r xs (lo+j)<=Kr r xs (lo+i)
structure KB(a₀:PA)(kd:SortKind)(lo:Nat)(st₀ st:SortSt):Prop where
 sb:SB a₀ kd st
 pe:pendingOf st=pendingOf st₀
 be:∀i,i<lo->(arrOf st)[i]?=(arrOf st₀)[i]?
theorem SB.size{st:SortSt}(h:SB a₀ kd st):(arrOf st).size=a₀.size:=by simpa using h.perm.length_eq
theorem KB.set{lo:Nat}{st₀ st:SortSt}(h:KB a₀ kd lo st₀ st){xs:PA}(hp:xs.Perm (arrOf st))(hb:∀i,i<lo->xs[i]?=(arrOf st)[i]?):KB a₀ kd lo st₀ (setArr st xs):=
 ⟨⟨(Array.perm_iff_toList_perm.mp hp).trans h.sb.perm,h.sb.kind,h.sb.failed⟩,h.pe,λi hi=>(hb i hi).trans (h.be i hi)⟩
theorem uY(C:qf prog w A J a₀ kd r){st:SortSt}(B:SB a₀ kd st){i j:Nat}(hi:i<a₀.size)(hj:j<a₀.size){Q:Option Bool->SortSt->Prop}
  (h:Q (some (decide (Kr r (arrOf st) i<Kr r (arrOf st) j))) st):eY (model prog w) A E J (ltAt' i j) Q st:=by
 have a:∀k,k<a₀.size->∃p,(arrOf st)[k]?=some p/\p∈a₀.toList:=λk g=>by
  have b:k<(arrOf st).size:=by rw[B.size];exact g
  exact⟨(arrOf st)[k],getElem?_pos _ k b,B.perm.mem_iff.mp (by simp)⟩
 obtain⟨p,d,m1⟩:=a i hi;obtain⟨q,c,e⟩:=a j hj;rw[ltAt'_eq];refine ar (gB (ar (ci d (ar (ci c (Cm C m1 e B.kind ?_))))));unfold Kr at h;rw[d,c]at h;exact h
theorem kY{xs:PA}{j:Nat}(hj:j<=xs.size)(k:Nat):Kr r (mirror xs i j ((j-i)/2)) k=if i<=k/\k<j then Kr r xs (i+j-1-k) else Kr r xs k:=by
 have e:=getElem?_mirror_all (i:=i) hj k
 by_cases h1:i<=k/\k<j
 ·rw[q07 h1]at e ⊢;exact v3 e
 ·rw[q06 h1]at e ⊢;exact v3 e
theorem cY{xs:PA}{i j:Nat}(hj:j<=xs.size)(heq:∀k,i<=k->k<j->Kr r xs k=Kr r xs (j-1))(k:Nat):Kr r (mirror xs i j ((j-i)/2)) k=Kr r xs k:=by
 rw[kY hj]
 split
 ·rw[heq _ ⋯ ⋯,heq k ⋯ ⋯]
 ·rfl
theorem yy{lo i j:Nat}{st₀ st:SortSt}(B:KB a₀ kd lo st₀ st)(hi:lo<=i)(hj:j<=a₀.size){Q:Unit->SortSt->Prop}
  (h:KB a₀ kd lo st₀ (setArr st (mirror (arrOf st) i j ((j-i)/2)))->Q () (setArr st (mirror (arrOf st) i j ((j-i)/2)))):eY (model prog w) A E J (reverseSlice' i j) Q st:=by
 rw[reverseSlice'_eq];refine cU (h (B.set (mirror_perm _ _ _ _) λk hk=>?_));rw[getElem?_mirror_all (by rw[B.sb.size];exact hj),q06 ⋯]
theorem EJ(C:qf prog w A J a₀ kd r){st:SortSt}(B:SB a₀ kd st){lo a n:Nat}{Q:As->SortSt->Prop}(hn:lo+n<=a₀.size)(ha:1<=a)(han:a<=n)(hs:Up r (arrOf st) lo a)
  (h:∀m,a<=m->m<=n->Up r (arrOf st) lo m->(m=n\/Kr r (arrOf st) (lo+m)<Kr r (arrOf st) (lo+m-1))->Q (none,m) st):eY (model prog w) A E J (Ga lo a n) Q st:=by
 unfold Ga;refine d_ (I:=λx c d=>d=st/\c=(none,x)/\Up r (arrOf st) lo x) ?s ?e ⟨rfl,rfl,hs⟩
 case e=>
  rintro c d ⟨rfl,rfl,b⟩;rw[show max a n=n by omega]at b ⊢;exact h n han (Ln _) b (.inl rfl)
 case s=>
  rintro x c d q hxn ⟨rfl,rfl,b⟩;dsimp only;refine ar (uY C B ⋯ ⋯ ?_)
  by_cases g:Kr r (arrOf d) (lo+x)<Kr r (arrOf d) (lo+x-1)
  ·simp only[g,decide_true,if_true]
   exact ay (h x q ⋯ b (.inr g))
  ·simp only[g,decide_false,q0a,if_false]
   refine ay ⟨rfl,rfl,λi j o hj=>?_⟩
   by_cases k:j<x
   ·exact b i j o k
   ·have l:j=x:=by omega
    subst l
    by_cases p:i=j
    ·subst p;exact Ln _
    ·have:=b i (j-1) ⋯ ⋯
     rw[show lo+(j-1)=lo+j-1 by omega]at this;omega
theorem Et(C:qf prog w A J a₀ kd r){st₀ st:SortSt}{lo m n:Nat}(B:KB a₀ kd lo st₀ st){Q:Option Nat->SortSt->Prop}(hn:lo+n<=a₀.size)(h1:1<=m)(hm:m<=n)(hs:Dn r (arrOf st) lo m)
  (h:∀k st',KB a₀ kd lo st₀ st'->1<=k->k<=n->Up r (arrOf st') lo k->Q (some k) st'):eY (model prog w) A E J (EF lo m n) Q st:=by
 unfold EF;have a:lo+m<=(arrOf st).size:=by rw[B.sb.size];omega
 refine ar (yy B (Ln _) ⋯ λb=>?_);refine ar (EJ C b.sb hn h1 hm (λi j hij hj=>?_) λk k1 d c _=>ay (h k _ b ⋯ d c));show Kr r (mirror (arrOf st) lo (lo+m) ((lo+m-lo)/2)) (lo+i)<=Kr r (mirror (arrOf st) lo (lo+m) ((lo+m-lo)/2)) (lo+j);rw[kY a,kY a,q07 ⋯,q07 ⋯];have:=hs (m-1-j) (m-1-i) ⋯ ⋯;rw[show lo+(lo+m)-1-(lo+i)=lo+(m-1-i) by omega,show lo+(lo+m)-1-(lo+j)=lo+(m-1-j) by omega];exact this
theorem GY(C:qf prog w A J a₀ kd r){st₀ st:SortSt}{lo m n:Nat}(B:KB a₀ kd lo st₀ st){Q:Ds->SortSt->Prop}(hn:lo+n<=a₀.size)(h1:1<=m)(hm:m<=n)(hs:Dn r (arrOf st) lo m)
  (h:∀k q st',KB a₀ kd lo st₀ st'->m<=k->k<=n->Dn r (arrOf st') lo k->q+1<=k->(∀i,k-(q+1)<=i->i<k->Kr r (arrOf st') (lo+i)=Kr r (arrOf st') (lo+k-1))->Q (none,k,q) st') :
  eY (model prog w) A E J (Hd lo m n) Q st:=by
 unfold Hd;refine d_ (I:=λx c st'=>∃q,c=(none,x,q)/\KB a₀ kd lo st₀ st'/\Dn r (arrOf st') lo x/\q+1<=x/\(∀i,x-(q+1)<=i->i<x->Kr r (arrOf st') (lo+i)=Kr r (arrOf st') (lo+x-1))) ?s ?e
  ⟨0,rfl,B,hs,⋯,λi h1 h2=>by congr 1;omega⟩
 case e=>
  rintro c st' ⟨q,rfl,d,a,o,g⟩;rw[show max m n=n by omega]at a o g ⊢;exact h n q st' d hm (Ln _) a o g
 case s=>
  rintro x c st' M hxn ⟨q,rfl,d,a,o,g⟩;dsimp only;have S:lo+x<=(arrOf st').size:=by rw[d.sb.size];omega
  have L:∀k,lo+x-(q+1)<=k->k<lo+x->Kr r (arrOf st') k=Kr r (arrOf st') (lo+x-1):=λk k1 k2=>by
   have:=g (k-lo) ⋯ ⋯
   rwa [show lo+(k-lo)=k by omega]at this
  have b:∀{u:PA},(∀k,Kr r u k=Kr r (arrOf st') k)->Kr r (arrOf st') (lo+x)<=Kr r (arrOf st') (lo+x-1)->Dn r u lo (x+1):=by
   intro u O hle i j D hj;rw[O,O]
   by_cases v:j<x
   ·exact a i j D v
   ·have y:j=x:=by omega
    subst y
    by_cases G:i=j
    ·subst G;exact Ln _
    ·have:=a i (j-1) ⋯ ⋯
     rw[show lo+(j-1)=lo+j-1 by omega]at this;omega
  refine ar (uY C d.sb ⋯ ⋯ ?_)
  by_cases p:Kr r (arrOf st') (lo+x)<Kr r (arrOf st') (lo+x-1)
  ·simp only[p,decide_true,if_true]
   by_cases l:q>0
   ·rw[q07 l]
    refine ar (yy d ⋯ ⋯ λU=>ay ⟨0,rfl,U,b (cY S L) (q0P p),⋯,λi h1 h2=>by congr 1;omega⟩)
   ·rw[q06 l]
    exact ay ⟨0,rfl,d,b (λ_=>rfl) (q0P p),⋯,λi h1 h2=>by congr 1;omega⟩
  ·simp only[p,decide_false,q0a,if_false]
   refine ar (uY C d.sb ⋯ ⋯ ?_)
   by_cases R:Kr r (arrOf st') (lo+x-1)<Kr r (arrOf st') (lo+x)
   ·simp only[R,decide_true,if_true]
    exact ay (h x q st' d M ⋯ a o g)
   ·simp only[R,decide_false,q0a,if_false]
    have T:Kr r (arrOf st') (lo+x)=Kr r (arrOf st') (lo+x-1):=by omega
    refine ay ⟨q+1,rfl,d,b (λ_=>rfl) ⋯,⋯,λi h1 h2=>?_⟩;rw[show lo+(x+1)-1=lo+x by omega]
    by_cases z:i=x
    ·subst z;rfl
    ·rw[T];exact g i ⋯ ⋯
theorem Es(C:qf prog w A J a₀ kd r){st₀ st:SortSt}{lo m n:Nat}(B:KB a₀ kd lo st₀ st){Q:Option Nat->SortSt->Prop}(hn:lo+n<=a₀.size)(hm:m+1<=n)(hs:Dn r (arrOf st) lo (m+1))
  (h:∀k st',KB a₀ kd lo st₀ st'->1<=k->k<=n->Up r (arrOf st') lo k->Q (some k) st'):eY (model prog w) A E J (F' lo m n) Q st:=by
 unfold F';refine ar (jZ λs j=>wpAny_rule ⟨j,?_⟩);refine ar (GY C B hn ⋯ hm hs λk q st' g o d a hq u=>?_);dsimp only;have l:lo+k<=(arrOf st').size:=by rw[g.sb.size];omega
 by_cases b:q>0
 ·rw[q07 b]
  refine ar (yy g ⋯ ⋯ λv=>Et C v hn ⋯ d (λi j e p=>?_) h);have c:∀t,lo+k-(q+1)<=t->t<lo+k->Kr r (arrOf st') t=Kr r (arrOf st') (lo+k-1):=λt o d=>by
   have:=u (t-lo) ⋯ ⋯
   rwa [show lo+(t-lo)=t by omega]at this
  show Kr r (mirror (arrOf st') _ _ _) _<=Kr r (mirror (arrOf st') _ _ _) _;rw[cY l c,cY l c];exact a i j e p
 ·rw[q06 b]
  exact Et C g hn ⋯ d a h
theorem wx(C:qf prog w A J a₀ kd r){st:SortSt}{lo n:Nat}(B:SB a₀ kd st){Q:Option Nat->SortSt->Prop}(hn:lo+n<=a₀.size)(h1:1<=n)
  (h:∀k st',KB a₀ kd lo st st'->1<=k->k<=n->Up r (arrOf st') lo k->Q (some k) st'):eY (model prog w) A E J (countRun' lo n) Q st:=by
 rw[uI];unfold CV
 have e:KB a₀ kd lo st st:=⟨B,rfl,λ_ _=>rfl⟩;refine ar (EJ C B hn (Ln 1) h1 (λi j c x=>by
  have:i=j:=by omega
  subst this;exact Ln _) λm m1 u d g=>?_)
 dsimp only
 by_cases q:m=n
 ·rw[q07 (by rw[q];exact beq_self_eq_true n)]
  exact ay (h m st e m1 u d)
 ·rw[q06 (by simpa using q)]
  have b:=g.resolve_left q
  by_cases y:m>1
  ·rw[q07 y]
   refine ar (uY C B ⋯ ⋯ ?_)
   by_cases hr:Kr r (arrOf st) lo<Kr r (arrOf st) (lo+m-1)
   ·simp only[hr,decide_true,if_true]
    exact ay (h m st e m1 u d)
   ·simp only[hr,decide_false,q0a,if_false]
    have v:lo+m<=(arrOf st).size:=by rw[B.size];omega
    have all:∀k,lo<=k->k<lo+m->Kr r (arrOf st) k=Kr r (arrOf st) (lo+m-1):=λk k1 k2=>by
     have D:=d 0 (k-lo) ⋯ ⋯;have z:=d (k-lo) (m-1) ⋯ ⋯;rw[show lo+(k-lo)=k by omega]at D z;rw[show lo+(m-1)=lo+m-1 by omega]at z;rw[show lo+0=lo by omega]at D;omega
    refine ar (yy e (Ln _) ⋯ λI=>Es C I hn ⋯ (λi j c x=>?_) h);show Kr r (mirror (arrOf st) _ _ _) _<=Kr r (mirror (arrOf st) _ _ _) _;rw[cY v all,cY v all]
    by_cases hjn:j<m
    ·rw[all (lo+i) ⋯ ⋯,all (lo+j) ⋯ ⋯];exact Ln _
    ·have o:j=m:=by omega
     subst o
     by_cases a:i=j
     ·subst a;exact Ln _
     ·rw[all (lo+i) ⋯ ⋯];exact q0P b
  ·rw[q06 y]
   have G:m=1:=by omega
   subst G;refine Es C e hn ⋯ (λi j c x=>?_) h
   by_cases a:i=j
   ·subst a;exact Ln _
   ·have p:i=0:=by omega
    have l:j=1:=by omega
    subst p;subst l
    exact q0P b
theorem qU{xs:PA}{src d:Nat}(hs:src<xs.size)(hd:d<=src)(k:Nat) :
  Kr r (bubble xs src d) k=if k=src-d then Kr r xs src else if src-d<k/\k<=src then Kr r xs (k-1) else Kr r xs k:=by
 have e:=getElem?_bubble hs d hd k
 by_cases h1:k=src-d
 ·rw[q07 h1]at e ⊢;exact v3 e
 ·rw[q06 h1]at e ⊢
  by_cases h2:src-d<k/\k<=src
  ·rw[q07 h2]at e ⊢;exact v3 e
  ·rw[q06 h2]at e ⊢;exact v3 e
theorem Gz(C:qf prog w A J a₀ kd r){st₀ st:SortSt}{lo n ok:Nat}(B:KB a₀ kd lo st₀ st){Q:Bool->SortSt->Prop}(hn:lo+n<=a₀.size)(hok:ok<=n)(hs:Up r (arrOf st) lo ok)
  (h:∀st',KB a₀ kd lo st₀ st'->Up r (arrOf st') lo n->Q true st'):eY (model prog w) A E J (binarySort' lo n ok) Q st:=by
 rw[binarySort'_eq];refine ar (bC (d_ (I:=λk c st'=>c=(none,())/\KB a₀ kd lo st₀ st'/\Up r (arrOf st') lo (min k n)) (Q:=λc st'=>c=(none,())/\KB a₀ kd lo st₀ st'/\Up r (arrOf st') lo n) ?s ?e ?i) ?p)
 case p=>
  rintro c st' ⟨rfl,d,b⟩;exact ay (h st' d b)
 case i=>
  refine⟨rfl,B,λi j o G=>?_⟩
  by_cases h1:ok=0
  ·have:i=j:=by omega
   subst this;exact Ln _
  ·exact hs i j o ⋯
 case e=>
  rintro c st' ⟨M,d,b⟩;refine⟨M,d,?_⟩
  rwa [show min (max (max ok 1) n) n=n by omega]at b
 case s=>
  rintro k c st' hak hkn ⟨rfl,d,b⟩;rw[show min k n=k by omega]at b;refine ar (bC (d_ (I:=λx c a=>a=st'/\∃l u,c=(none,l,u)/\l<=u/\u<=k/\u-l<=k-x /\
    (∀i,i<l->Kr r (arrOf st') (lo+i)<=Kr r (arrOf st') (lo+k))/\(∀i,u<=i->i<k->Kr r (arrOf st') (lo+k)<Kr r (arrOf st') (lo+i)))
   (Q:=λc a=>a=st'/\∃l u,c=(none,l,u)/\l<=k /\
    (∀i,i<l->Kr r (arrOf st') (lo+i)<=Kr r (arrOf st') (lo+k))/\(∀i,l<=i->i<k->Kr r (arrOf st') (lo+k)<Kr r (arrOf st') (lo+i))) ?s2 ?e2 ?i2) ?p2)
  case i2=>exact⟨rfl,0,k,rfl,⋯,⋯,⋯,λi L=>by omega,λi h1 h2=>by omega⟩
  case e2=>
   rintro c a ⟨rfl,l,u,rfl,h1,h2,O,m,g⟩;have:l=u:=by omega
   subst this;exact⟨rfl,l,l,rfl,h2,m,g⟩
  case s2=>
   rintro x c a _ hxk ⟨rfl,l,u,rfl,h1,h2,O,m,g⟩;dsimp only
   by_cases z:l≥u
   ·rw[q07 z]
    have:l=u:=by omega
    subst this;exact ay ⟨rfl,l,l,rfl,h2,m,g⟩
   ·rw[q06 z]
    refine ar (uY C d.sb ⋯ ⋯ ?_)
    by_cases q:Kr r (arrOf a) (lo+k)<Kr r (arrOf a) (lo+(l+u)/2)
    ·simp only[q,decide_true,if_true]
     exact ay ⟨rfl,l,(l+u)/2,rfl,⋯,⋯,⋯,m,λi y D=>Li q (b _ _ y D)⟩
    ·simp only[q,decide_false,q0a,if_false]
     exact ay ⟨rfl,(l+u)/2+1,u,rfl,⋯,⋯,⋯,λi y=>Lv (b i ((l+u)/2) ⋯ ⋯) (Nat.not_lt.mp q),g⟩
  case p2=>
   rintro c a ⟨rfl,l,u,rfl,h2,m,g⟩;show eY _ _ _ _ (moveDown' (lo+k) (lo+l) >>= λ_=>pure (ForInStep.yield (none,()))) _ _;rw[moveDown'_eq];have v:lo+k<(arrOf a).size:=by rw[d.sb.size];omega
   refine ar (cU (ay ⟨rfl,d.set (bubble_perm _ _ _) λi L=>?_,?_⟩))
   ·rw[getElem?_bubble v _ ⋯,q06 ⋯,q06 ⋯]
   ·rw[show min (k+1) n=k+1 by omega]
    intro i j o G;show Kr r (bubble (arrOf a) (lo+k) (lo+k-(lo+l))) (lo+i)<=Kr r (bubble (arrOf a) (lo+k) (lo+k-(lo+l))) (lo+j);rw[qU v ⋯,qU v ⋯,show lo+k-(lo+k-(lo+l))=lo+l by omega]
    repeat' split
    all_goals first
     | (exfalso;omega)
     |exact Ln _
     |exact m _ ⋯
     | (rw[show lo+j-1=lo+(j-1) by omega];exact q0P (g _ ⋯ ⋯))
     | (rw[show lo+i-1=lo+(i-1) by omega,show lo+j-1=lo+(j-1) by omega];exact b _ _ ⋯ ⋯)
     | (rw[show lo+j-1=lo+(j-1) by omega];exact b _ _ ⋯ ⋯)
     |exact b _ _ ⋯ ⋯
theorem Ee{xs:PA}{lo n:Nat}(hz:lo+n<=xs.size)(h:Up r xs lo n):((xs.toList.drop lo).take n).Pairwise (gH r):=by
 rw[List.pairwise_iff_getElem];intro i j g d c;have e:j<n:=by simp at d;omega
 have a:∀k (b:k<((xs.toList.drop lo).take n).length),Kr r xs (lo+k)=r ((xs.toList.drop lo).take n)[k]:=by
  intro k b;unfold Kr;rw[CS (n:=n) (by simpa using hz) (by simp at b;omega),K0 b]
 have:=h i j (q0P c) e;rw[a i g,a j d]at this;exact this
theorem KB.split{lo n:Nat}{st₀ st:SortSt}(B:KB a₀ kd lo st₀ st){u:List Keyed}{v:List Keyed}(e:(arrOf st₀).toList=u++v)(hu:u.length=lo)(hn:lo+n<=a₀.size)(hs:Up r (arrOf st) lo n) :
  ∃x v',(arrOf st).toList=u++(x++v')/\x.length=n/\x.Pairwise (gH r):=by
 have b:lo+n<=(arrOf st).size:=by rw[B.sb.size];exact hn
 refine⟨((arrOf st).toList.drop lo).take n,(arrOf st).toList.drop (lo+n),?_,by simp;omega,Ee b hs⟩;have c:(arrOf st).toList.take lo=u:=by
  apply List.ext_getElem?;intro i
  by_cases a:i<lo
  ·rw[List.getElem?_take,q07 a,q0G,B.be i a,<- q0G,e,Ll ⋯]
  ·rw[List.getElem?_take,q06 a,List.getElem?_eq_none ⋯]
 rw[<- List.drop_drop,List.take_append_drop,<- c,List.take_append_drop]
abbrev Pd:=Nat×Nat×Nat
def fu(r:Keyed->Nat):List Pd->List (List Keyed)->Nat->Prop
 | [],rs,_=>rs=[]
 |e::p,rs,k=>∃x rs',rs=x::rs'/\e.1=k/\e.2.1=x.length/\x≠[]/\x.Pairwise (gH r)/\fu r p rs' (k+x.length)
theorem fu.app:∀{p q:List Pd} {rs:List (List Keyed)} {k:Nat},fu r (p++q) rs k↔∃r1 r2,rs=r1++r2/\fu r p r1 k/\fu r q r2 (k+r1.flatten.length)
 | [],q,rs,k=>by
  constructor
  ·exact λh=>⟨[],rs,rfl,rfl,by simpa using h⟩
  ·rintro⟨r1,r2,rfl,h1,h2⟩
   cases(show r1=[] from h1)
   simpa using h2
 |e::p,q,rs,k=>by
  constructor
  ·rintro⟨x,rs',rfl,e1,e2,x0,xs,h⟩
   obtain⟨r1,r2,rfl,h1,h2⟩:=fu.app.mp h;exact⟨x::r1,r2,rfl,⟨x,r1,rfl,e1,e2,x0,xs,h1⟩,by rw[List.flatten_cons,Lm,<- Nat.add_assoc];exact h2⟩
  ·rintro⟨r1,r2,rfl,⟨x,rs',rfl,e1,e2,x0,xs,h1⟩,h2⟩
   rw[List.flatten_cons,Lm,<- Nat.add_assoc]at h2;exact⟨x,rs'++r2,rfl,e1,e2,x0,xs,fu.app.mpr ⟨rs',r2,rfl,h1,h2⟩⟩
theorem fu.many:∀{p:List Pd} {rs:List (List Keyed)} {k:Nat},fu r p rs k->p.length<=rs.flatten.length
 | [],rs,k,h=>by simp
 |e::p,rs,k,h=>by
  obtain⟨x,rs',rfl,e1,e2,x0,xs,h1⟩:=h;have:=fu.many h1;have:=List.length_pos_iff.mpr x0;simp;simp at *;omega
theorem fu.mod{f:Pd->Pd}(hf:∀e,(f e).1=e.1/\(f e).2.1=e.2.1):∀{p:List Pd} {i:Nat} {rs:List (List Keyed)} {k:Nat},fu r p rs k->fu r (p.modify i f) rs k
 | [],i,rs,k,h=>by simpa using h
 |e::p,0,rs,k,h=>by
  obtain⟨x,rs',rfl,e1,e2,q⟩:=h;rw[List.modify_zero_cons];exact⟨x,rs',rfl,(hf e).1.trans e1,(hf e).2.trans e2,q⟩
 |e::p,i+1,rs,k,h=>by
  obtain⟨x,rs',rfl,e1,e2,x0,xs,q⟩:=h;rw[List.modify_succ_cons];exact⟨x,rs',rfl,e1,e2,x0,xs,fu.mod hf q⟩
structure RI(a₀:PA)(kd:SortKind)(r:Keyed->Nat)(st:SortSt)(lo:Nat)(bx:List Keyed):Prop where
 sb:SB a₀ kd st
 ex:∃rs,(arrOf st).toList=rs.flatten++bx/\rs.flatten.length=lo/\fu r (pendingOf st).toList rs 0
theorem BE{α:Type}{l:List α}{i:Nat}(h:i+1<l.length):∃p1 e1 e2 p2,l=p1++e1::e2::p2/\p1.length=i:=by
 refine⟨l.take i,l[i],l[i+1],l.drop (i+2),?_,by simp;omega⟩;have e1:=q0T (l:=l) (i:=i) ⋯;have e2:=q0T (l:=l) (i:=i+1) ⋯;rw[show i+2=i+1+1 by omega,<- e2,<- e1,List.take_append_drop]
theorem li(C:qf prog w A J a₀ kd r){st:SortSt}{lo i:Nat}{bx:List Keyed}(R:RI a₀ kd r st lo bx)(hi:i+1<(pendingOf st).size){Q:Bool->SortSt->Prop}
  (h:∀st',RI a₀ kd r st' lo bx->(pendingOf st').size+1=(pendingOf st).size->Q true st'):eY (model prog w) A E J (mergeAt' i) Q st:=by
 obtain⟨B,rs,S,O,hr⟩:=R;obtain⟨p1,U,T,p2,d,rfl⟩:=BE (l:=(pendingOf st).toList) (i:=i) (by simpa using hi);rw[d]at hr;obtain⟨c,r2,rfl,h1,x,r3,rfl,j,p,k,I,y,b,rfl,g,o,D,G,n⟩:=fu.app.mp hr;obtain⟨s1,n1,w1⟩:=U;obtain⟨s2,n2,w2⟩:=T;dsimp only at j p g o;rw[Nat.zero_add]at j g;subst j;subst p;subst g;subst o
 refine zo C B (u:=c.flatten) (x:=x) (y:=y) (v:=b.flatten++bx) d (by rw[S];simp) k D I G λst' z Z m Y a q=>h st' ⟨Z,c++z::b,by rw[Y];simp,?_,?_⟩ ?_
 ·have:=a.length_eq
  simp at this O ⊢;omega
 ·rw[m]
  refine fu.app.mpr ⟨c,z::b,rfl,h1,z,b,rfl,by simp,by have:=a.length_eq;simp at this ⊢;omega,?_,q,?_⟩
  ·intro e
   rw[e]at a;have:=a.length_eq;have:=List.length_pos_iff.mpr k;simp at *;omega
  ·have:=a.length_eq
   rw[Lm]at this;rw[this,<- Nat.add_assoc,Nat.zero_add];rw[Nat.zero_add]at n;exact n
 ·have M:=q0R List.length m
  have L:=q0R List.length d;simp at M L;omega
theorem pF(C:qf prog w A J a₀ kd r){st:SortSt}{Q:Unit->SortSt->Prop}(B:SB a₀ kd st)(hp:pendingOf st=#[])(h1:1<=a₀.size)
  (h:∀st',SB a₀ kd st'->(arrOf st').toList.Pairwise (gH r)->Q () st'):eY (model prog w) A E J sortRuns' Q st:=by
 rw[sortRuns'_eq];refine ar (gB ?_);dsimp only;rw[B.size];generalize minRun' a₀.size a₀.size 0=mr;refine ar (bC (d_ (I:=λx c st'=>∃j,c=(none,j)/\x<=j/\j<=a₀.size/\∃bx,RI a₀ kd r st' j bx) (Q:=λc st'=>c=(none,a₀.size)/\∃bx,RI a₀ kd r st' a₀.size bx) ?s ?e ?i) ?p)
 case i=>exact⟨0,rfl,⋯,⋯,(arrOf st).toList,B,[],by simp,rfl,by rw[hp];rfl⟩
 case e=>
  rintro c st' ⟨j,rfl,h2,h3,R⟩;have:j=a₀.size:=by omega
  subst this;exact⟨rfl,R⟩
 case s=>
  rintro x c st' _ hx ⟨j,rfl,h2,h3,bx,R⟩;dsimp only
  by_cases hg:j≥a₀.size
  ·rw[q07 hg]
   have:j=a₀.size:=by omega
   subst this;exact ay ⟨rfl,bx,R⟩
  ·rw[q06 hg]
   refine ar (wx C R.sb ⋯ ⋯ λm g B2 m1 m2 hu=>?_);dsimp only
   -- with a run of n from j on: merges,and the run is put behind the others
   have start:∀n d,KB a₀ kd j st' d->1<=n->n<=a₀.size-j->Up r (arrOf d) j n->∃y v,RI a₀ kd r d j (y++v)/\y.length=n/\y≠[]/\y.Pairwise (gH r):=by
    intro n d L O M k;obtain⟨_,u,D,l,hr⟩:=R;obtain⟨y,v,e,S,o⟩:=L.split D l ⋯ k;refine⟨y,v,⟨L.sb,u,e,l,by rw[L.pe];exact hr⟩,S,?_,o⟩;intro q;subst q;simp at S;omega
   have push:∀n d y v,1<=n->n<=a₀.size-j->RI a₀ kd r d j (y++v)->y.length=n->y≠[]->y.Pairwise (gH r) ->
     ∃lo',((none,j+n):Option Unit×Nat)=(none,lo')/\x+1<=lo'/\lo'<=a₀.size/\∃bx,RI a₀ kd r (setPending d ((pendingOf d).push (j,n,0))) lo' bx:=by
    intro n d y v O M T S U o;obtain⟨L,u,D,l,hr⟩:=T;refine⟨j+n,rfl,⋯,⋯,v,⟨L.perm,L.kind,L.failed⟩,u++[y],?_,?_,?_⟩
    ·show(arrOf d).toList=_
     rw[D];simp
    ·simp at l ⊢;omega
    ·show fu r ((pendingOf d).push (j,n,0)).toList _ _
     rw[Array.toList_push];exact fu.app.mpr ⟨u,[y],rfl,hr,y,[],rfl,by show j=0+_;rw[l];omega,S.symm,U,o,rfl⟩
   by_cases a0:m<mr
   ·rw[q07 a0]
    refine ar (jZ λ_ jj=>wpAny_rule ⟨jj,?_⟩);refine ar (Gz C B2 (n:=min (a₀.size-j) mr) ⋯ ⋯ hu λd L k=>?_);rw[q06 nofun];have O:1<=min (a₀.size-j) mr:=by omega
    have M:min (a₀.size-j) mr<=a₀.size-j:=by omega
    generalize min (a₀.size-j) mr=n at O M k ⊢;obtain⟨y,v,T,S,U,o⟩:=start n d L O M k;refine ar (gB ?_);cases hb:(pendingOf d).back? with
    |none=>
     dsimp only;exact ar (cU (ay (push n d y v O M T S U o)))
    |some e=>
     obtain⟨s1,l1,w1⟩:=e;dsimp only;refine ar (bC (d_ (I:=λ_ c b=>c=(none,())/\RI a₀ kd r b j (y++v)) (Q:=λc b=>c=(none,())/\RI a₀ kd r b j (y++v)) ?_ (λ_ _ q=>q) ⟨rfl,T⟩) ?_)
     ·rintro z c b _ _ ⟨rfl,G⟩
      refine ar (gB ?_)
      by_cases hz:(pendingOf b).size>1
      ·rw[q07 hz]
       have Y:(pendingOf b).size-2<(pendingOf b).size:=by omega
       rw[getElem?_pos (pendingOf b) _ Y];generalize(pendingOf b)[(pendingOf b).size-2]=e;obtain⟨f1,f2,f3⟩:=e;dsimp only
       split
       ·exact ay ⟨rfl,G⟩
       ·refine ar (li C G ⋯ λa1 R5 _=>?_)
        rw[q06 nofun];exact ay ⟨rfl,R5⟩
      ·rw[q06 hz];exact ay ⟨rfl,G⟩
     ·rintro c b ⟨rfl,G⟩
      dsimp only;refine ar (cU (ar (cU (ay (push n _ y v O M ?_ S U o)))));obtain⟨B4,u,D,l,hr⟩:=G;exact⟨⟨B4.perm,B4.kind,B4.failed⟩,u,D,l,by
       show fu r (Array.modify _ _ _).toList _ _;rw[Array.toList_modify];refine fu.mod ?_ hr;exact λe=>⟨rfl,rfl⟩⟩
   ·rw[q06 a0]
    clear a0
    revert hu m2 m1 B2;revert g m
    intro n d L O M k;obtain⟨y,v,T,S,U,o⟩:=start n d L O M k;refine ar (gB ?_);cases hb:(pendingOf d).back? with
    |none=>
     dsimp only;exact ar (cU (ay (push n d y v O M T S U o)))
    |some e=>
     obtain⟨s1,l1,w1⟩:=e;dsimp only;refine ar (bC (d_ (I:=λ_ c b=>c=(none,())/\RI a₀ kd r b j (y++v)) (Q:=λc b=>c=(none,())/\RI a₀ kd r b j (y++v)) ?_ (λ_ _ q=>q) ⟨rfl,T⟩) ?_)
     ·rintro z c b _ _ ⟨rfl,G⟩
      refine ar (gB ?_)
      by_cases hz:(pendingOf b).size>1
      ·rw[q07 hz]
       have Y:(pendingOf b).size-2<(pendingOf b).size:=by omega
       rw[getElem?_pos (pendingOf b) _ Y];generalize(pendingOf b)[(pendingOf b).size-2]=e;obtain⟨f1,f2,f3⟩:=e;dsimp only
       split
       ·exact ay ⟨rfl,G⟩
       ·refine ar (li C G ⋯ λa1 R5 _=>?_)
        rw[q06 nofun];exact ay ⟨rfl,R5⟩
      ·rw[q06 hz];exact ay ⟨rfl,G⟩
     ·rintro c b ⟨rfl,G⟩
      dsimp only;refine ar (cU (ar (cU (ay (push n _ y v O M ?_ S U o)))));obtain⟨B4,u,D,l,hr⟩:=G;exact⟨⟨B4.perm,B4.kind,B4.failed⟩,u,D,l,by
       show fu r (Array.modify _ _ _).toList _ _;rw[Array.toList_modify];refine fu.mod ?_ hr;exact λe=>⟨rfl,rfl⟩⟩
 case p=>
  rintro c st' ⟨rfl,bx,R⟩;dsimp only;have pz:(pendingOf st').size<=a₀.size:=by
   obtain⟨_,u,_,l,hr⟩:=R;have:=hr.many;simp at this l;omega
  refine ar (bC (d_ (I:=λx c g=>c=(none,())/\RI a₀ kd r g a₀.size bx/\(pendingOf g).size+x<=a₀.size\/c=(none,())/\RI a₀ kd r g a₀.size bx/\(pendingOf g).size<=1)
   (Q:=λc g=>c=(none,())/\RI a₀ kd r g a₀.size bx/\(pendingOf g).size<=1) ?s2 ?e2 (.inl ⟨rfl,R,pz⟩)) ?p2)
  case e2=>
   rintro c g (⟨rfl,R2,q⟩ | ⟨rfl,R2,q⟩)
   ·exact⟨rfl,R2,⋯⟩
   ·exact⟨rfl,R2,q⟩
  case s2=>
   intro x c g _ hx hI;have hc:c=(none,()):=by rcases hI with q | q<;>exact q.1
   have R2:RI a₀ kd r g a₀.size bx:=by rcases hI with q | q<;>exact q.2.1
   refine ar (gB ?_)
   by_cases h2:(pendingOf g).size<=1
   ·rw[q07 h2];exact ay ⟨rfl,R2,h2⟩
   ·rw[q06 h2]
    have q:(pendingOf g).size+x<=a₀.size:=by
     rcases hI with q | q
     ·exact q.2.2
     ·exact q0Q q.2.2 h2
    refine ar (li C R2 ?_ λd T q3=>?_)
    ·repeat' split
     all_goals omega
    ·rw[q06 nofun]
     exact ay (.inl ⟨rfl,T,⋯⟩)
  case p2=>
   rintro c g ⟨rfl,R2,q⟩;refine ay (h g R2.sb ?_);obtain⟨B2,u,D,l,hr⟩:=R2;have lz:(arrOf g).toList.length=a₀.size:=by simpa using B2.size
   have r0:bx=[]:=by
    have:=q0R List.length D;rw[Lm]at this;exact LJ.mp ⋯
   subst r0;rw[Ly]at D;rw[D];cases Z:(pendingOf g).toList with
   |nil=>rw[Z]at hr;cases(show u=[] from hr);exact .nil
   |cons e p=>
    rw[Z]at hr;obtain⟨y,a2,rfl,_,_,_,o,q'⟩:=hr;have:p=[]:=by
     have:=q0R List.length Z;exact LJ.mp (by simp at this;omega)
    subst this;cases(show a2=[] from q')
    simpa using o
end
def rk(O:KeyOrd)(f:Keyed->O.α)(l:List Keyed)(p:Keyed):Nat:=l.countP λq=>O.blt (f q) (f p)
theorem uA{α:Type}{f g:α->Bool}:∀{l:List α},(∀x,x∈l->f x=true->g x=true)->(∃x,x∈l/\f x=false/\g x=true)->l.countP f<l.countP g
 | [],_,h=>by obtain⟨x,hx,_⟩:=h;exact nomatch hx
 |x::l,h,⟨y,hy,e1,e2⟩=>by
  rw[List.countP_cons,List.countP_cons];have le:l.countP f<=l.countP g:=List.countP_mono_left λx hx=>h x (Lg _ hx);rcases Lf.mp hy with rfl | hy
  ·rw[e1,e2];simp;omega
  ·have:=uA (f:=f) (g:=g) (l:=l) (λx hx=>h x (Lg _ hx)) ⟨y,hy,e1,e2⟩
   have:=h x (q0B ..);cases hf:f x<;>cases hg:g x<;>simp_all<;>omega
theorem AI{O:KeyOrd}{f:Keyed->O.α}{l:List Keyed}{x:Keyed}(hx:x∈l):O.blt (f x) (f y)=decide (rk O f l x<rk O f l y):=by
 cases h:O.blt (f x) (f y) with
 |true=>
  refine(q09 ?_).symm;exact uA (λz _ a=>O.trans _ _ _ a h) ⟨x,hx,O.irrefl _,h⟩
 |false=>
  refine(q08 (Nat.not_lt.mpr ?_)).symm;refine List.countP_mono_left λz _ a=>?_;rcases O.negTrans _ (f x) _ a with q | q
  ·exact q
  ·rw[h]at q;exact q0Q q nofun
theorem Gd{O:KeyOrd}{f:Keyed->O.α}{l:List Keyed}{y:Keyed}(hy:y∈l)(h:rk O f l x<=rk O f l y):O.blt (f y) (f x)=false:=by
 rw[AI (f:=f) (l:=l) hy];exact q08 (Nat.not_lt.mpr h)
theorem yv{h:Heap}{a:Addr}{vs:Array Value}(ho:h.get? a=some (seqObj "list" vs n)):∃e1,(h.update a (Obj.mapSeq λ_=>#[])).get? a=some (seqObj "list" #[] e1):=⟨_,get?_update_seq ho _⟩
def sort1(h:Heap)(a:Addr)(vs:L4):Heap:=((h.update a (Obj.mapSeq λ_=>#[])).push (seqObj "tuple" vs.toArray 0)).push (seqObj "list" #[] 0)
section
variable {prog:L8}{w:Mb}{A:Ma}{E:LV}{s:LZ}
theorem sort_tree{a:Addr}{vs:L4}{P:Fin->Shared->Prop}{kd:SortKind}(ho:s.heap.get? a=some (seqObj "list" vs.toArray n))(hz:vs.length<=sizeLine)
  (hkk:2<=vs.length->∀{Q:SortKind->Shared->Prop},Q kd {s with heap:=sort1 s.heap a vs}->wpAny (model prog w) A (keyKind' vs.toArray) Q E {s with heap:=sort1 s.heap a vs})
  (C:2<=vs.length->qf prog w A (· = {s with heap:=sort1 s.heap a vs}) (pairsOf vs) kd r)
  (h:∀ps:List Keyed,ps.Perm (vs.zip vs)->ps.Pairwise (gH r)->P (.done (.ret .none)) {s with heap:=sortedHeap s.heap a vs (ps.map (·.2)).toArray}) :
  wpAny (model prog w) A (Builtin.«list.sort» ⟨[.ref a],[]⟩) P E s:=by
 rw[list_sort_plain];refine q04 (listItems_at ho rfl (q04 (listUpdate_at ho rfl ?_)));obtain⟨o,i⟩:=yv ho;refine q04 (seqEpoch_at i rfl (q04 (wpAny_newTuple (q04 (wpAny_newList (q0Y ?_))))));have c:(sort1 s.heap a vs).get? a=some (seqObj "list" #[] o):=by
  exact K2 _ (K2 _ i)
 show wpAny (model prog w) A _ P E {s with heap:=sort1 s.heap a vs};dsimp only;have l:vs.toArray.size=vs.length:=by simp
 have fin:∀d:PA,d.toList.Perm (pairsOf vs).toList->d.toList.Pairwise (gH r)->P (.done (.ret .none)) {s with heap:=sortedHeap s.heap a vs (d.map (·.2))}:=by
  intro d m g;have:=h d.toList (by rw[<- pairsOf_toList];exact m) g
  rwa [show(d.toList.map (·.2)).toArray=d.map (·.2) by rw[<- Array.toList_map]]at this
 by_cases h2:(vs.toArray).size<2
 ·rw[q07 h2,q07 h2]
  refine q04 (q05 ?_);rw[StateT.run_pure];refine q04 (q05 ?_);dsimp only;refine q04 (seqEpoch_at c rfl (q04 (listUpdate_at c rfl ?_ (hsz2:=by rw[Array.size_map];show(pairsOf vs).size<=_;rw[pairsOf_size,q0W];omega))));simp only[bne_self_eq_false,q0a,if_false];refine q05 (fin (vs.toArray.zip vs.toArray) (List.Perm.refl _) ?_);show(pairsOf vs).toList.Pairwise _;rw[pairsOf_toList]
  match vs,l,h2 with
  | [],_,_=>exact .nil
  | [v],_,_=>exact List.pairwise_singleton _ _
  |_::_::_,_,h2=>simp at h2;omega
 ·rw[q06 h2,q06 h2]
  refine q04 (hkk ⋯ ?_);refine q04 (q0X (pF (a₀:=pairsOf vs) (kd:=kd) (r:=r) (C ⋯) (st:=SortSt.mk' kd (vs.toArray.zip vs.toArray) #[] 7 none)
   (Q:=λ_ b=>SB (pairsOf vs) kd b/\(arrOf b).toList.Pairwise (gH r)) ⟨List.Perm.refl _,rfl,rfl⟩ rfl (by rw[pairsOf_size];omega) (λb k j=>⟨k,j⟩) _ rfl) ?_ λ_ _ e=>e)
  rintro⟨⟨⟩,b⟩ s' ⟨rfl,B,g⟩;dsimp only;refine q04 (seqEpoch_at c rfl (q04 (listUpdate_at c rfl ?_ (hsz2:=by refine Lv (Nat.le_of_eq ((Array.size_map ..).trans (B.size.trans (pairsOf_size _)))) ?_;omega))));rw[show failedOf b=none from B.failed];simp only[bne_self_eq_false,q0a,if_false];exact q05 (fin (arrOf b) B.perm g)
end
section
variable {prog:L8}{w:Mb}{A:Ma}{E:LV}{s s2:LZ}
abbrev with1(s2:LZ)(vs:L4):Heap:=s2.heap.push (seqObj "list" vs.toArray 0)
theorem cmp_one{κ:KeyKind}(hO:κ.OneLt){J:Shared->Prop}{a₀:PA}(h0:KeysOf κ a₀) :
  qf prog w A J a₀ oneType' (rk κ.toKeyOrd (λp=>(κ.keyOf p.1).getD κ.dflt) a₀.toList):=by
 intro x c y g s j;obtain⟨a,e⟩:=h0 x c;obtain⟨b,d⟩:=h0 y g;rw[keyLt'_oneType];refine hO prog w A _ s x.1 y.1 a b e d ⟨j,?_⟩;have:=AI (O:=κ.toKeyOrd) (f:=λp=>(κ.keyOf p.1).getD κ.dflt) (y:=y) c;rw[<- this,e,d];rfl
theorem ranks_out{O:KeyOrd}{f:Keyed->O.α}{ps:List Keyed}(hp:ps.Perm l)(h:ps.Pairwise (gH (rk O f l))):ps.Pairwise λp q=>O.blt (f q) (f p)=false:=by
 have mem:∀p,p∈ps->p∈l:=λp b=>hp.mem_iff.mp b;clear hp
 induction ps with
 |nil=>exact .nil
 |cons p ps ih=>
  rw[List.pairwise_cons]at h ⊢;exact⟨λq a=>Gd (mem q (Lg _ a)) (h.1 q a),ih h.2 λq a=>mem q (Lg _ a)⟩
theorem zip_map2{vs:L4}{ps:List Keyed}(hp:ps.Perm (vs.zip vs)):(ps.map (·.2)).Perm vs/\ps.map (·.2)=ps.map (·.1):=by
 refine⟨(hp.map _).trans (by rw[List.map_snd_zip (Ln _)]),q0K λp a=>((mem_zip_self (hp.mem_iff.mp a)).1).symm⟩
end
end TS
namespace TS
open PySem PyProof.Rows PySem.MeetsSeq PySem.MeetsSeq3
open AutoSeq1 (wpAny_loadPart')
abbrev G0(s:LZ)(a:Addr)(xs:Array Value)(n:Nat)(dd:Mc)(sl:Array (Option Value)):Prop:=s.heap.get? a=some {cls:=.type "list",dict:=dd,data:=.seq xs n,slots:=sl}
def kN:List Str->List Str->Bool
 | [],[]=>false
 | [],_::_=>true
 |_::_,[]=>false
 |x::xs,y::ys=>if x==y then kN xs ys else decide (x.cps.toList<y.cps.toList)
section
variable {prog:L8}{w:Mb}{A:Ma}{E:LV}{s:LZ}
theorem vC{x y:Str}{t:Tok}{Q:LV}(h:Q (.bool (decide (x.cps.toList<y.cps.toList))) s):wpAny (model prog w) A (richCompare .Lt (.str x t) (.str y u)) Q E s:=
 wpAny_richCompare_same (typeIs_str s x t) (typeIs_str s y u) slot_str_lt (call_str_lt ⟨(λq=>nomatch q),h⟩)
end
set_option maxHeartbeats 1600000 in
theorem Ea(l b:Addr)(items items2:Array Value)(n n2:Nat)(dd dd2:Mc)(sl sl2:Array (Option Value))(k:Nat) :
  ∀(i:Nat) (ss ts:L9),ss.length+ts.length=k->i<=items.size->i<=items2.size->StrsAre (items.toList.drop i) ss->StrsAre (items2.toList.drop i) ts->Meets (Builtin.«list.__eq__.loop» ⟨[.ref l,.ref b,rawInt i,rawInt 0],[]⟩)
   (λA R s=>G0 s l items n dd sl/\G0 s b items2 n2 dd2 sl2 /\
    R (.ok (.ret (.bool (kN ss ts)))) s):=by
 induction k using Nat.strongRecOn with
 |_ k ih=>
 intro i ss ts T S J h1 h2 z w A R s h;obtain⟨hp,g,d,tk,os⟩:=s;obtain⟨o,p,h⟩:=h
 wp_walk using wpAny_loadPart' o,wpAny_loadPart' p
 have Y:((i:Nat):Int).toNat=i:=by simp
 rw[Y];have I:∀{xs:Array Value},xs.toList.drop i=[]->i<=xs.size->xs[i]?=none/\xs.size=i:=fun{xs} e q=>by
  have:=q0R List.length e;simp at this;exact⟨by simp;omega,⋯⟩
 have j:∀{xs:Array Value} {v:Value} {r:L4},xs.toList.drop i=v::r->xs[i]?=some v/\i<xs.size/\xs.toList.drop (i+1)=r:=fun{xs v r} e=>by
  have m:i<xs.toList.length:=by
   have:=q0R List.length e;simp at this ⊢;omega
  have q:=q0T (l:=xs.toList) m;rw[e]at q;obtain⟨O,M⟩:=List.cons.inj q;exact⟨by rw[<- q0G,K0 m,O],by simpa using m,M.symm⟩
 generalize C:items.toList.drop i=v1 at h1;generalize c:items2.toList.drop i=v2 at h2;cases h1 with
 |nil=>
  obtain⟨D,L⟩:=I C S;rw[D];cases h2 with
  |nil=>
   obtain⟨a,G⟩:=I c J;rw[a]
   wp_walk using wpAny_loadPart' o,wpAny_loadPart' p
   show R (.ok (.ret (.bool (decide (items.size<items2.size))))) _;rw[q08 ⋯];exact h
  |cons y u h2'=>
   obtain⟨a,G,_⟩:=j c;rw[a]
   wp_walk using wpAny_loadPart' o,wpAny_loadPart' p
   show R (.ok (.ret (.bool (decide (items.size<items2.size))))) _;rw[q09 ⋯];exact h
 |cons x t h1'=>
  obtain⟨D,L,d1⟩:=j C;rw[D];cases h2 with
  |nil=>
   obtain⟨a,G⟩:=I c J;rw[a]
   wp_walk using wpAny_loadPart' o,wpAny_loadPart' p
   show R (.ok (.ret (.bool (decide (items.size<items2.size))))) _;rw[q08 ⋯];exact h
  |cons y u h2'=>
   obtain⟨a,G,Z⟩:=j c;rw[a];refine q04 (eqBool_str ?_);unfold kN at h;cases B:x==y with
   |true=>
    rw[B,q07 rfl]at h
    wp_walk
    have U:((i:Int)+1)=((i+1:Nat):Int):=by push_cast;rfl
    rw[U];exact⟨plainId_quiet plain_eq_loop _,codeAny_builtin entry_eq_loop (by
     rw[Around.under_plainId plain_eq_loop _];exact ih _ (by rw[<- T];simp;omega) (i+1) _ _ rfl ⋯ ⋯ (by rw[d1];exact h1') (by rw[Z];exact h2') z w A R _ ⟨o,p,h⟩)⟩
   |false=>
    rw[B,q06 nofun]at h
    wp_walk using wpAny_loadPart' o,wpAny_loadPart' p
    rw[D,a];exact q04 (vC (q05 h))
theorem su(l b:Addr)(items items2:Array Value)(n n2:Nat)(dd dd2:Mc)(sl sl2:Array (Option Value))(ss ts:L9)(h1:StrsAre items.toList ss)(h2:StrsAre items2.toList ts) :
  Meets (Builtin.«list.__lt__» ⟨[.ref l,.ref b],[]⟩)
   (λA R s=>G0 s l items n dd sl/\G0 s b items2 n2 dd2 sl2 /\
    R (.ok (.ret (.bool (kN ss ts)))) s):=by
 intro a w A R s h;obtain⟨hp,g,d,tk,os⟩:=s;obtain⟨c,e,h⟩:=h
 have f3:=AutoSeq1.sub_list_list
 wp_walk using wpAny_loadPart' c,wpAny_loadPart' e
 exact⟨plainId_quiet plain_eq_loop _,codeAny_builtin entry_eq_loop (by
  rw[Around.under_plainId plain_eq_loop _];exact Ea l b items items2 n n2 dd dd2 sl sl2 _ 0 ss ts rfl (Lo _) (Lo _) h1 h2 a w A R _ ⟨c,e,h⟩)⟩
abbrev cp(x:Str):List Nat:=x.cps.toList
theorem EQ(h:cp x=cp y):x=y:=by
 cases x;cases y;exact q0R _ (Array.toList_inj.mp h)
abbrev ks(l:L9):List (List Nat):=l.map cp
theorem tZ:∀(l m:L9),kN l m=decide (ks l<ks m)
 | [],[]=>by simp[kN,List.lt_irrefl]
 | [],_::_=>by simp[kN]
 |_::_,[]=>by simp[kN]
 |x::l,y::m=>by
  unfold kN;have e:(ks (x::l)<ks (y::m))↔(cp x<cp y\/cp x=cp y/\ks l<ks m):=List.cons_lt_cons_iff
  by_cases h:x=y
  ·subst h
   rw[q07 (beq_self_eq_true x),tZ l m];refine decide_eq_decide.mpr (e.trans ⟨λq=>?_,λq=>.inr ⟨rfl,q⟩⟩).symm;rcases q with q | q
   ·exact q0Q q (List.lt_irrefl _)
   ·exact q.2
  ·rw[q06 (by simpa using h)]
   refine decide_eq_decide.mpr (e.trans ⟨λq=>?_,λq=>.inl q⟩).symm;rcases q with q | q
   ·exact q
   ·exact q0Q (EQ q.1) h
@[reducible] def Ju:KeyOrd where
 α:=List (List Nat)
 blt a b:=decide (a<b)
 irrefl x:=q08 (List.lt_irrefl x)
 trans x y z p q:=q09 (List.lt_trans (of_decide_eq_true p) (of_decide_eq_true q))
 negTrans a b c h:=by
  simp only[q0b]at *
  by_cases hab:a<b
  ·exact .inl hab
  ·exact .inr (List.lt_of_le_of_lt (List.not_lt.mp hab) h)
 total x y p q:=List.le_antisymm (List.not_lt.mp (of_decide_eq_false q)) (List.not_lt.mp (of_decide_eq_false p))
@[reducible] def ordI:KeyOrd where
 α:=Int×List (List Nat)
 blt a b:=decide (a.1<b.1\/a.1=b.1/\a.2<b.2)
 irrefl a:=by simp[List.lt_irrefl]
 trans a b c h1 h2:=by
  simp only[q0b]at *;rcases h1 with h1 | ⟨h1,h1'⟩<;>rcases h2 with h2 | ⟨h2,h2'⟩
  ·exact .inl ⋯
  ·exact .inl ⋯
  ·exact .inl ⋯
  ·exact .inr ⟨⋯,List.lt_trans h1' h2'⟩
 negTrans a b c h:=by
  simp only[q0b]at *
  by_cases h1:a.1<b.1
  ·exact .inl (.inl h1)
  ·by_cases h2:b.1<c.1
   ·exact .inr (.inl h2)
   ·rcases h with h | ⟨h,h'⟩
    ·omega
    ·by_cases hab:a.2<b.2
     ·exact .inl (.inr ⟨⋯,hab⟩)
     ·exact .inr (.inr ⟨⋯,List.lt_of_le_of_lt (List.not_lt.mp hab) h'⟩)
 total a b h1 h2:=by
  simp only[decide_eq_false_iff_not]at *;have e:a.1=b.1:=by
   have q1:¬ a.1<b.1:=λq=>h1 (.inl q);have q2:¬ b.1<a.1:=λq=>h2 (.inl q);omega
  have e2:a.2=b.2:=List.le_antisymm (List.not_lt.mp λq=>h2 (.inr ⟨e.symm,q⟩)) (List.not_lt.mp λq=>h1 (.inr ⟨e,q⟩));exact Prod.ext e e2
section
variable {prog:L8}{w:Mb}{A:Ma}{E:LV}{s:LZ}
theorem oU:∀{vs:L4} {ss:L9},StrsAre vs ss->vs.length=ss.length
 |_,_,.nil=>rfl
 |_,_,.cons x t h=>by simp[oU h]
theorem t8:∀{vs:L4} {ss:L9},StrsAre vs ss->∀j (h:j<vs.length),∃t,vs[j]=.str (ss.getD j ⟨#[]⟩) t
 |_,_,.cons x t h,0,_=>⟨t,rfl⟩
 |_,_,.cons x t h,j+1,hj=>by
  obtain⟨t',e⟩:=t8 h j (by simpa using hj);exact⟨t',by simpa using e⟩
theorem A1{ss:L9}(hl:s.heap.IsList l xs)(hb:s.heap.IsList b ys)(h1:StrsAre xs.toList ss)(h2:StrsAre ys.toList ts)(hu:A.units<cLine) :
  SeqAt.EqAt A s (.ref l) (.ref b) (decide (ss=ts)):=by
 by_cases d:l=b
 ·subst d
  have:xs=ys:=by
   obtain⟨o,z,_,n,B⟩:=hl;obtain⟨o',c,_,n',g⟩:=hb;rw[z]at c;cases c
   rw[B]at g;injection g
  subst this;have:ss=ts:=by rw[<- h1.strs,<- h2.strs]
  rw[q09 this];exact SeqAt.EqAt.same _
 ·refine SeqAt.EqAt.of_refs d ?_
  have p:=oU h1;have x:=oU h2;simp at p x
  by_cases m:xs.size=ys.size
  ·have q:=SeqAt.RcAt.lists (A:=A) (e:=λj=>ss.getD j ⟨#[]⟩==ts.getD j ⟨#[]⟩) hl hb m hu λj k i=>by
    obtain⟨t,v⟩:=t8 h1 j (by simpa using k);obtain⟨u,r⟩:=t8 h2 j (by simpa using i);rw[Array.getElem_toList]at v r;rw[v,r];exact λprog w E Q y=>eqBool_str y
   have e:((List.range xs.size).all λj=>ss.getD j ⟨#[]⟩==ts.getD j ⟨#[]⟩)=decide (ss=ts):=by
    by_cases a:ss=ts
    ·subst a;simp
    ·rw[q08 a]
     refine Bool.eq_false_iff.mpr λq=>a ?_;refine List.ext_getElem ⋯ λj k i=>?_;have:=LL.mp q j (List.mem_range.mpr ⋯);rw[q0A,q0A,K0 k,K0 i,q0L,q0L]at this;exact eq_of_beq this
   rw[e]at q;exact q
  ·have a:¬ ss=ts:=λq=>m (by rw[q]at p;omega)
   rw[q08 a];exact SeqAt.RcAt.lists_lengths hl hb (by simpa using m) hu
theorem BM{ss:L9}{Q:LV}(hl:s.heap.IsList l xs)(hb:s.heap.IsList b ys)(h1:StrsAre xs.toList ss)(h2:StrsAre ys.toList ts)(hu:A.units<cLine)
  (h:Q (.bool (kN ss ts)) s):wpAny (model prog w) A (richCompare .Lt (.ref l) (.ref b)) Q E s:=by
 obtain⟨⟨cls,p,data,m⟩,i,k,n,j⟩:=id hl;obtain⟨⟨cls2,g,data2,e⟩,a,d,o,c⟩:=id hb;simp only at k j d c;subst k j d c;exact richCompare_meets_room (op:=.Lt) ⟨_,i,rfl⟩ ⟨_,a,rfl⟩ PySem.F.slot_list_lt PySem.F.entry_list_lt (PySem.F.args_list_lt_2 _ _) (su l b xs ys n o p g m e ss ts h1 h2)
  ⟨i,a,show Value.bool (kN ss ts)≠Value.notImplemented/\Q (.bool (kN ss ts)) s from⟨(λx=>nomatch x),h⟩⟩ hu
end
end TS
namespace TS
open PySem PyProof.Rows PySem.MeetsSeq PySem.MeetsSeq3 PySem.W
def EX(h:Heap)(v:Value)(ss:L9):Prop:=∃a o xs n,v=.ref a/\h.get? a=some o/\o.cls=.type "tuple"/\o.data=.seq xs n/\StrsAre xs.toList ss
def TupI(h:Heap)(v:Value)(k:Int×List Str):Prop:=∃a o n l ys t,v=.ref a/\h.get? a=some o/\o.cls=.type "tuple"/\o.data=.seq #[.int k.1 t,.ref l] n/\h.IsList l ys/\StrsAre ys.toList k.2
section
variable {prog:L8}{w:Mb}{A:Ma}{E:LV}{s:LZ}
theorem Ei{Q:Bool->Shared->Prop}(hu:A.units<cLine)(hx:TupI s.heap x k)(hy:TupI s.heap y m)(h:Q (decide (k.1<m.1\/k.1=m.1/\ks k.2<ks m.2)) s) :
  wpAny (model prog w) A (keyLt' (tuples' true) x y) Q E s:=by
 obtain⟨a,o,n,l,xs,t,rfl,r,_,v,j,h1⟩:=hx;obtain⟨a2,o2,n2,l2,ys,u,rfl,d,_,g,b,h2⟩:=hy;refine kat_lt r v d g (kat_cons (wpAny_eqBool_int ?_));cases e:k.1==m.1 with
 |false=>
  refine kat_no (oneLt_int ?_);have p:¬ k.1=m.1:=λq=>by rw[q]at e;simp at e
  rw[show decide (k.1<m.1\/k.1=m.1/\ks k.2<ks m.2)=decide (k.1<m.1) from decide_eq_decide.mpr ⟨λq=>q.elim id λq=>q0Q q.1 p,.inl⟩]at h;exact h
 |true=>
  have z:=eq_of_beq e;have i:Q (kN k.2 m.2) s:=by
   rw[tZ];rw[show decide (k.1<m.1\/k.1=m.1/\ks k.2<ks m.2)=decide (ks k.2<ks m.2) from decide_eq_decide.mpr ⟨λq=>q.elim (λq=>by omega) And.right,λq=>.inr ⟨z,q⟩⟩]at h;exact h
  refine kat_yes (kat_cons (A1 j b h1 h2 hu prog w _ _ ?_))
  by_cases c:k.2=m.2
  ·rw[q09 c]
   refine kat_yes (kat_nil ?_);have:kN k.2 m.2=false:=by rw[c,tZ];exact q08 (List.lt_irrefl _)
   rw[this]at i;exact i
  ·rw[q08 c]
   refine kat_no ?_;rw[oneLt'_eq];simp only[show((true&&(1:Nat)==0)=true)=False by simp,if_false];exact q04 (BM j b h1 h2 hu (wpAny_truthy_bool i))
def keyEnd(h:Heap)(a kS:Addr)(out:Array Value):Heap:=(h.update kS (Obj.mapSeq λ_=>#[])).update a (Obj.mapSeq λ_=>out)
theorem Bb{a kS:Addr}{e1:Nat}{keys:Array Value}{vs:L4}{st:SortSt}{P:Fin->Shared->Prop}(hka:a≠kS)(hk:s.heap.get? kS=some (seqObj "list" keys e))(ha:s.heap.get? a=some (seqObj "list" #[] e1))
  (hz:keys.size<=sizeLine) (hz2:(arrOf st).size<=sizeLine) (hf:failedOf st=none) (h:P (.done (.ret .none)) {s with heap:=keyEnd s.heap a kS ((arrOf st).map (·.2))}) :
  wpAny (model prog w) A (ksk_tail a false e1 (.ref kS) st) P E s:=by
 have b:(s.heap.update kS (Obj.mapSeq λ_=>(#[]:Array Value))).get? a=some (seqObj "list" #[] e1):=((Heap.SameBut.update s.heap kS (Obj.mapSeq λ_=>(#[]:Array Value))).2 a hka).trans ha;unfold ksk_tail;dsimp only;refine q04 (listUpdate_at hk rfl ?_ hz (Lo _));refine q04 (wpAny_letGo ?_);refine q04 (seqEpoch_at b rfl ?_);refine q04 (listUpdate_at b rfl ?_ (Lo _) (by rw[q06 nofun,Array.size_map];exact Nat.le_succ_of_le hz2));rw[hf];simp only[bne_self_eq_false,q0a,if_false];exact q05 h
theorem Df{a kS:Addr}{e1:Nat}{keys:Array Value}{vs:L4}{P:Fin->Shared->Prop}(hka:a≠kS)(hk:s.heap.get? kS=some (seqObj "list" keys e))(ha:s.heap.get? a=some (seqObj "list" #[] e1))
  (hz:vs.length<=sizeLine) (hkz:keys.size=vs.length) {kd:SortKind} {r:Keyed->Nat} (hkk:2<=vs.length->∀{Q:SortKind->Shared->Prop},Q kd s->wpAny (model prog w) A (keyKind' keys) Q E s)
  (C:2<=vs.length->qf prog w A (· = s) (keys.zip vs.toArray) kd r)
  (h:∀ps:List Keyed,ps.Perm (keys.toList.zip vs)->ps.Pairwise (gH r)->P (.done (.ret .none)) {s with heap:=keyEnd s.heap a kS (ps.map (·.2)).toArray}) :
  wpAny (model prog w) A (ksk_end a false vs.toArray e1 (.ref kS) keys) P E s:=by
 have j:(keys.zip vs.toArray).toList=keys.toList.zip vs:=ksk_zip keys vs;have i:(keys.zip vs.toArray).size=vs.length:=by rw[Array.size_zip,hkz,K9,Nat.min_self]
 have fin:∀st:SortSt,(arrOf st).toList.Perm (keys.zip vs.toArray).toList->(arrOf st).toList.Pairwise (gH r)->failedOf st=none->wpAny (model prog w) A (ksk_tail a false e1 (.ref kS) st) P E s:=by
  intro st g c m;refine Bb (vs:=vs) hka hk ha ⋯ (by have:=g.length_eq;simp at this;omega) m ?_;have:=h (arrOf st).toList (by rw[<- j];exact g) c
  rwa [show((arrOf st).toList.map (·.2)).toArray=(arrOf st).map (·.2) by rw[<- Array.toList_map]]at this
 have hs:vs.toArray.size=vs.length:=by simp
 unfold ksk_end;dsimp only;rw[q06 nofun]
 by_cases h2:vs.toArray.size<2
 ·rw[q07 h2,q07 h2]
  refine q04 (q05 ?_);rw[StateT.run_pure];refine q04 (q05 ?_);dsimp only;refine fin (SortSt.mk' general' (keys.zip vs.toArray) #[] 7 none) (List.Perm.refl _) ?_ rfl;have d:(keys.zip vs.toArray).toList.length<2:=by simp;omega
  show(keys.zip vs.toArray).toList.Pairwise _
  match(keys.zip vs.toArray).toList,d with
  | [],_=>exact .nil
  | [v],_=>exact List.pairwise_singleton _ _
  |_::_::_,d=>simp at d;omega
 ·rw[q06 h2,q06 h2]
  refine q04 (hkk ⋯ ?_);refine q04 (q0X (pF (a₀:=keys.zip vs.toArray) (kd:=kd) (r:=r) (C ⋯) (st:=SortSt.mk' kd (keys.zip vs.toArray) #[] 7 none)
   (Q:=λ_ b=>SB (keys.zip vs.toArray) kd b/\(arrOf b).toList.Pairwise (gH r)) ⟨List.Perm.refl _,rfl,rfl⟩ rfl (by rw[i];omega) (λb l k=>⟨l,k⟩) _ rfl) ?_ λ_ _ e=>e)
  rintro⟨⟨⟩,b⟩ s' ⟨rfl,B,c⟩;exact fin b B.perm c B.failed
theorem Bt{a:Addr}{f:Value}{vs:L4}{P:Fin->Shared->Prop}(ho:s.heap.get? a=some (seqObj "list" vs.toArray n))(hz:vs.length<=sizeLine)(I:Nat->Array Value->Shared->Prop){e1:Nat}
  (ho1:(s.heap.update a (Obj.mapSeq λ_=>(#[]:Array Value))).get? a=some (seqObj "list" #[] e1)) (h0:I 0 #[] {s with heap:=sort1 s.heap a vs})
  (hI:∀i kA s',I i kA s'->kA.size=i/\s'.heap.get? a=some (seqObj "list" #[] e1)/\∃e,s'.heap.get? (s.heap.objs.size+1)=some (seqObj "list" kA e))
  (step:∀i x kA s',vs[i]?=some x->I i kA s'->wpAny (model prog w) A (call f [x]) (λv s2=>(∃e,s2.heap.get? (s.heap.objs.size+1)=some (seqObj "list" kA e)) /\
   I (i+1) (kA.push v) {s2 with heap:=s2.heap.update (s.heap.objs.size+1) (Obj.mapSeq (·.push v))}) (λ_ _=>False) s')
  (fin:∀keys s',I vs.length keys s'->∃(kd:SortKind) (r:Keyed->Nat),(2<=vs.length->∀{Q:SortKind->Shared->Prop},Q kd s'->wpAny (model prog w) A (keyKind' keys) Q E s') /\
   (2<=vs.length->qf prog w A (· = s') (keys.zip vs.toArray) kd r) /\
   ∀ps:List Keyed,ps.Perm (keys.toList.zip vs)->ps.Pairwise (gH r)->P (.done (.ret .none)) {s' with heap:=keyEnd s'.heap a (s.heap.objs.size+1) (ps.map (·.2)).toArray}) :
  wpAny (model prog w) A (ksk_tree a f false) P E s:=by
 have o:a<s.heap.objs.size:=Lq ho;unfold ksk_tree;refine q04 (listItems_at ho rfl (q04 (listUpdate_at ho rfl ?_)));refine q04 (seqEpoch_at ho1 rfl (q04 (wpAny_newTuple (q04 (wpAny_newList (q0Y ?_))))));show wpAny (model prog w) A _ P E {s with heap:=sort1 s.heap a vs};have z:((s.heap.update a (Obj.mapSeq λ_=>(#[]:Array Value))).push (seqObj "tuple" vs.toArray 0)).objs.size=s.heap.objs.size+1:=by rw[size_push',Heap.size_update]
 show wpAny (model prog w) A (ksk_rest a f false vs.toArray e1 (.ref ((s.heap.update a (Obj.mapSeq λ_=>(#[]:Array Value))).push (seqObj "tuple" vs.toArray 0)).objs.size)) P E _;rw[z];unfold ksk_rest;refine q04 (wpAny_rule ?_);rw[<- Array.forIn_toList];refine q04 (ksk_fold (λi s'=>∃kA,I i kA s') vs 0 _ ⟨#[],h0⟩ ?step ?done)
 case step=>
  rintro j x s' g ⟨kA,b⟩;simp only[Nat.zero_add]at b ⊢;have hj:j<vs.length:=(K1.mp g).1;obtain⟨d,_,_⟩:=hI _ _ _ b;refine q04 (wpAny_attempt (q0X (step j x kA s' g b) (λv s2 m=>?_) λ_ _ p=>p.elim));obtain⟨⟨e,l⟩,ol⟩:=m;dsimp only;refine q04 (listUpdate_at l rfl ?_ ⋯ (Lv (Nat.le_of_eq (Array.size_push ..)) ⋯));exact q05 ⟨rfl,_,ol⟩
 case done=>
  rintro s' ⟨kA,b⟩;rw[Nat.zero_add]at b;obtain⟨d,k,e,c⟩:=hI _ _ _ b;obtain⟨kd,r,y,u,q⟩:=fin _ _ b;refine q04 (listItems_at c rfl ?_);exact Df (Lj (Nat.lt_succ_of_lt o)) c k hz d y u q
end
theorem TupI.one{h:Heap}{v:Value}{k m:Int×List Str}(h1:TupI h v k)(h2:TupI h v m):k=m:=by
 obtain⟨a,o,n,l,ys,t,rfl,y,_,B,z,w⟩:=h1;obtain⟨a2,o2,n2,x,zs,u,e,d,_,b,j,r⟩:=h2;cases e;rw[y]at d;cases d
 rw[B]at b;have D:k.1=m.1:=by injection b with q;injection q with q;injection q with q _;injection q
 have C:l=x:=by injection b with q;injection q with q;injection q with _ q;injection q with q _;injection q
 subst C;obtain⟨o3,i,_,n3,p⟩:=z;obtain⟨o4,c,_,n4,g⟩:=j;rw[i]at c;cases c
 rw[p]at g;cases g
 exact Prod.ext D (by rw[<- w.strs,<- r.strs])
open Classical in
def keyI(h:Heap)(p:Keyed):Int×List (List Nat):=if q:∃k,TupI h p.1 k then(q.choose.1,ks q.choose.2) else(0,[])
theorem keyI_eq{p:Keyed}(q:TupI h p.1 k):keyI h p=(k.1,ks k.2):=by
 have a:∃k,TupI h p.1 k:=⟨k,q⟩;unfold keyI;rw[dif_pos a,a.choose_spec.one q]
section
variable {prog:L8}{w:Mb}{A:Ma}{E:LV}{s:LZ}
theorem cmp_I{a₀:PA}(hu:A.units<cLine)(h:∀p,p∈a₀.toList->∃k,TupI s.heap p.1 k):qf prog w A (· = s) a₀ (tuples' true) (rk ordI (keyI s.heap) a₀.toList):=by
 intro x c y d s' j;cases j;obtain⟨k,b⟩:=h x c;obtain⟨m,a⟩:=h y d;refine Ei hu b a ⟨rfl,?_⟩;rw[<- AI (O:=ordI) (f:=keyI s.heap) (y:=y) c,keyI_eq b,keyI_eq a]
theorem kind_I{vs:L4}{Q:SortKind->Shared->Prop}(h:∀v,v∈vs->∃k,TupI s.heap v k)(h0:0<vs.length)(hq:Q (tuples' true) s):wpAny (model prog w) A (keyKind' vs.toArray) Q E s:=by
 have:∃fs,KatTups s.heap vs fs/\fs.length=vs.length/\∀v,v∈fs->∃x t,v=Value.int x t:=by
  clear h0 hq
  induction vs with
  |nil=>exact⟨[],trivial,rfl,λv b=>nomatch b⟩
  |cons v vs ih=>
   obtain⟨fs,t,l,q⟩:=ih λu hu=>h u (Lg _ hu);obtain⟨k,a,o,n,ll,ys,c,rfl,d,g,e,hl,hs⟩:=h v (q0B ..);refine⟨.int k.1 c::fs,KatTups.cons d g e rfl t,by simp[l],λu hu=>?_⟩;rcases Lf.mp hu with rfl | hu
   ·exact⟨_,_,rfl⟩
   ·exact q u hu
 obtain⟨fs,t,l,q⟩:=this;refine kat_kind (T:=.type "int") t ⋯ (λv b=>?_) (by rfl) hq;obtain⟨x,c,rfl⟩:=q v b;exact .now
end
end TS
namespace L2
open PySem PySem.Spec PyProof.Rows
theorem mn:∀{ys:L9} {us:L4},StrsAre us ys->bc (ys.map V.str) us
 |_,_,.nil=>.nil
 |_,_,.cons x t h=>.cons ⟨t,rfl⟩ (mn h)
theorem vF{α β:Type}{f:α->β}{l l':List β}(h:l.Perm l'):∀m:List α,l'=m.map f->∃m':List α,m'.Perm m/\l=m'.map f:=by
 induction h with
 |nil=>intro m e;exact⟨m,List.Perm.refl _,e⟩
 |cons x _ ih=>
  intro m e;cases m with
  |nil=>exact nomatch e
  |cons y m=>
   obtain⟨d,c⟩:=List.cons.inj e;obtain⟨m',p,q⟩:=ih m c;exact⟨y::m',p.cons y,by rw[q,d];rfl⟩
 |swap x y l=>
  intro m e
  match m,e with
  |a::b::m,e=>
   obtain⟨d,c⟩:=List.cons.inj e;obtain⟨r,o⟩:=List.cons.inj c;exact⟨b::a::m,List.Perm.swap a b m,by rw[d,r,o];rfl⟩
 |trans _ _ ih1 ih2=>
  intro m e;obtain⟨m1,k,i⟩:=ih2 m e;obtain⟨n,j,g⟩:=ih1 m1 i;exact⟨n,j.trans k,g⟩
theorem zO{h:Heap}{a b:Addr}{o:Obj}(hb:h.get? b=some o)(hne:b≠a):(TS.sort1 h a vs).get? b=some o:=by
 unfold TS.sort1;refine K2 _ (K2 _ ?_);rw[Heap.get?_update_ne _ _ _ _ hne];exact hb
def GF(K:LW)(H:Hp)(x:V)(k:Int×List Str):Prop:=∃a l,x=.ref a/\gG K H a [.int k.1,.ref l]/\aR K H l (k.2.map V.str)
section
variable {X:Cx}
theorem Inv.pair{pins:LX}{σ:St}(I:Inv X pins σ H s){x:V}{k:Int×List Str}{u:Value}(h:GF X.K H x k)(r:bh x u):TS.TupI s.heap u k:=by
 obtain⟨a,l,rfl,e,i⟩:=h;obtain rfl:u=Value.ref a:=r;obtain⟨its,b,⟨o,g,m,n,j⟩,_⟩:=I.tuple e;obtain⟨js,c,d,_⟩:=I.list i;cases b with
 |cons q1 b=>
  cases b with
  |cons q2 b=>
   cases b;obtain⟨t,rfl⟩:=q1;obtain rfl:=q2;exact⟨a,o,n,l,_,t,rfl,g,m,j,d.isList,by simpa using fk c⟩
abbrev kI(k:Int×List Str):Int×List (List Nat):=(k.1,TS.ks k.2)
end
@[reducible] def IE:KeyOrd where
 α:=Int
 blt a b:=decide (a<b)
 irrefl a:=by simp
 trans a b c h1 h2:=by simp only[q0b]at *;omega
 negTrans a b c h:=by simp only[q0b]at *;omega
 total a b h1 h2:=by simp only[decide_eq_false_iff_not]at *;omega
end L2
namespace TS
open PySem PyProof.Rows PySem.W
section
variable {prog:L8}{w:Mb}{A:Ma}{E:LV}{s:LZ}{T:String}{r d:Addr}{n:Nat}{P:Nat->Value->Prop}{OK:Heap->Prop}
theorem collect_src{Q:List Value->Shared->Prop}(K:KdlSrc prog w T r d n P OK)(hh:A.handled=none)(hok:OK s.heap)(hn:n<=sizeLine)
  (h:∀h' tk (acc':Array Value),(∀b o,s.heap.get? b=some o->h'.get? b=some o)->ItemsOf P acc' n->Q acc'.toList {s with heap:=h',toks:=tk}) :
  wpAny (model prog w) A (collect (.ref r)) Q E s:=by
 have l:=K.there _ hok;unfold collect;refine q04 (wpAny_runValue (codeAny_builtin entry_proto_collect' (show wpAny _ _ (do again (.builtin "list.__iadd__" ⟨[<- newList [],.ref r],[]⟩)) _ _ s from q04 (wpAny_newList (q05 ⟨Code.quiet_builtin _ (by decide +kernel),codeAny_builtin entry_list_iadd' ?_⟩)))));show wpAny _ _ (Builtin.List.listExtendWith (.ref s.heap.objs.size) (.ref r) (.ref s.heap.objs.size)) _ _ {s with heap:=s.heap.push (seqObj "list" #[] 0)};rw[Around.under_plainId (show plainId "list.__iadd__"=true by decide +kernel) _];refine q0X (kdl_extend (s:={s with heap:=s.heap.push (seqObj "list" #[] 0)}) (R:=λc i=>c=.ok (.ret (.ref s.heap.objs.size))/\∃h' tk acc' k,i={s with heap:=h',toks:=tk}/\(∀b o,s.heap.get? b=some o->h'.get? b=some o) /\
   h'.get? s.heap.objs.size=some {cls:=.type "list",dict:=none,data:=.seq acc' k,slots:=#[]}/\ItemsOf P acc' n) K hh (K.keep _ _ hok λb _ o e=>K2 _ e) s.heap.objs.size (Nat.ne_of_gt l.1) (Nat.ne_of_gt l.2) (.ref s.heap.objs.size) 0 (K8 _ rfl)
  (λh' tk acc' k m j g=>⟨rfl,h',tk,acc',k,rfl,λb o q=>m b o (Lj (Lq q)) (K2 _ q),j,g⟩) hn) (λfin i p=>?_) λe i z=>?_
 ·have u:∀(c:Result) (i:LZ),(c=.ok (.ret (.ref s.heap.objs.size))/\∃h' tk acc' k,i={s with heap:=h',toks:=tk}/\(∀b o,s.heap.get? b=some o->h'.get? b=some o) /\
    h'.get? s.heap.objs.size=some {cls:=.type "list",dict:=none,data:=.seq acc' k,slots:=#[]}/\ItemsOf P acc' n) ->
    match c with
    |Except.ok (Flow.ret v)=>wpAny (model prog w) A (match v with
      |Value.ref a=>do
       let o <- load a
       match o.data with
        |Data.seq xs epoch=>pure xs.toList
        |x=>unsupported "internal:collect"
      |x=>unsupported "internal:collect") Q E i
    |Except.ok a=>False
    |Except.error e=>E e i:=by
   rintro c i ⟨rfl,h',tk,acc',k,rfl,m,j,g⟩;exact q04 (wpAny_load j (q05 (h h' tk acc' m g)))
  cases fin with
  |done f=>exact u _ _ p
  |again k=>exact⟨p.1,codeAny_mono p.2 λc y hr=>u c y hr⟩
 ·exact nomatch z.1
end
section
variable {prog:L8}{w:Mb}{A:Ma}{E:LV}{s:LZ}
def KeyRun(prog:L8)(w:Mb)(A:Ma)(E:LV)(q:Addr)(Q:LV)(vs:L4)(s2:LZ):Prop:=
 vs.length<=sizeLine/\∀e1,((with1 s2 vs).update s2.heap.objs.size (Obj.mapSeq λ_=>(#[]:Array Value))).get? s2.heap.objs.size=some (seqObj "list" #[] e1)->∀kS,kS=(with1 s2 vs).objs.size+1 ->
   ∃(I:Nat->Array Value->Shared->Prop),I 0 #[] {s2 with heap:=sort1 (with1 s2 vs) s2.heap.objs.size vs} /\
  (∀i kA s',I i kA s'->kA.size=i/\s'.heap.get? s2.heap.objs.size=some (seqObj "list" #[] e1)/\∃e,s'.heap.get? kS=some (seqObj "list" kA e)) /\
  (∀i x kA s',vs[i]?=some x->I i kA s'->wpAny (model prog w) A.in1.in1 (call (.ref q) [x]) (λv s3=>(∃e,s3.heap.get? kS=some (seqObj "list" kA e))/\I (i+1) (kA.push v) {s3 with heap:=s3.heap.update kS (Obj.mapSeq (·.push v))}) (λ_ _=>False) s') /\
  (∀keys s',I vs.length keys s'->∃(kd:SortKind) (r:Keyed->Nat),(2<=vs.length->∀(Q:SortKind->Shared->Prop),Q kd s'->wpAny (model prog w) A.in1.in1 (keyKind' keys) Q E s')/\(2<=vs.length->qf prog w A.in1.in1 (· = s') (keys.zip vs.toArray) kd r) /\
   ∀ps:List Keyed,ps.Perm (keys.toList.zip vs)->ps.Pairwise (gH r)->Q (.ref s2.heap.objs.size) {s' with heap:=keyEnd s'.heap s2.heap.objs.size kS (ps.map (·.2)).toArray})
theorem sorted_key(hc:wpAny (model prog w) A.in1 (collect v) (KeyRun prog w A E q Q) E s) :
  wpAny (model prog w) A (call (.builtin "sorted") [v] [(Str.ofString "key",.ref q)]) Q E s:=by
 refine call_function_entry_kw kind_sorted plain_sorted entry_sorted (ksk_s1 _ _) ?_;unfold Builtin.«sorted»;refine q04 (m:=checkCount "sorted" 1 1 _) (q05 ?_)
 refine q04 (q0X hc (λvs a ⟨n,h⟩=>?_) λ_ _ e=>e);refine q04 (wpAny_newList ?_ (hsz:=by omega));have b:(with1 a vs).get? a.heap.objs.size=some (seqObj "list" vs.toArray 0):=K8 _ rfl;show wpAny _ _ _ _ _ {a with heap:=with1 a vs};obtain⟨B,c⟩:=yv b;obtain⟨I,u,p,d,fin⟩:=h B c _ rfl;refine q04 (q0Y (wpAny_call_entry_kw slot_list_sort ⟨_,b,rfl⟩ entry_list_sort ?body (ksk_l1 _ _)))
 case body=>
  show wpAny (model prog w) A.in1.in1 (Builtin.«list.sort» ⟨[.ref a.heap.objs.size],[(Str.ofString "key",.ref q)]⟩) _ _ _;rw[ksk_t1];refine Bt (s:={a with heap:=with1 a vs}) b n I c u p d λkeys g o=>?_;obtain⟨l,r,z,y,x⟩:=fin keys g o;exact⟨l,r,λh2 {Q} hq=>z h2 Q hq,y,λi k j=>⟨_,rfl,q05 ⟨_,rfl,x i k j⟩⟩⟩
end
end TS
namespace L2
open PySem PySem.Spec PyProof.Rows QL
abbrev uB(p a:Addr):HO:=.ext λh=>h.IsValuesView p a
section
variable {X:Cx}{pins:LX}{σ:St}{H:Hp}{s:LZ}{h':Heap}
theorem Inv.adopt{t':Nat}{a:Addr}(I:Inv X pins σ H s)(k:∀b u,b≠a->s.heap.get? b=some u->h'.get? b=some u)(hn:H a=none)(hL:a≠X.env.locals)
  (h1:X.s₀.heap.objs.size<=a) (h2:∀x c,X.env.cells.lookup x=some c->c≠a) (h3:∀p∈X.pn++pins,p.1≠a) (new:bK X.prog X.w (aG H a o) h' a o):Inv X pins σ (aG H a o) {s with heap:=h',toks:=t' }:=by
 have i:∀b u,H b=some u->b≠a:=λb u e z=>by rw[z,hn]at e;cases e
 have g:∀b u,H b=some u->aG H a o b=some u:=λb u e=>by rw[aq (i b u e)];exact e
 refine I.step (g':=s.gens) (d':=s.drawn) (ch:=[a]) (λb j=>?_) (λb o _ _ d e _=>k b o (λz=>d (by simp[z])) e) (λb o _ _ d e _=>⟨o.slots,k b o (λz=>d (by simp[z])) e⟩) (λb _ d _ n=>by rw[aq (λz=>d (by simp[z]))];exact n)
  (λb o d e=>⟨o,k b o (λz=>d (by simp[z])) e⟩) (λb l e=>g _ _ e) (λb _ _ e=>g _ _ e) (λb ps e=>⟨#[],by rw[g _ _ e];simp⟩) (λm y=>?_) (λb u e=>?_) I.bare
 ·have e:b=a:=by simpa using j
  subst e;exact⟨.inr h1,hL,h2,h3⟩
 ·obtain⟨o,B,C,w,r⟩:=y
  exact⟨o,B,C,k _ o (Ne.symm hL) w,r⟩
 ·by_cases j:b=a
  ·subst j;rw[af]at e;cases e;exact new
  ·rw[aq j]at e
   refine(I.hok b u e).stay (λc v d q=>k c v ?_ q) (λc q=>g _ _ q) λc l q=>g _ _ q;rcases d with z | z
   ·rw[z];exact j
   ·exact i c _ z
end
section
variable {X:Cx}{o:Expr}{apos cpos:Pos}{td:TE}
def xx(td:TE):TE:=λσ H Q=>td σ H λx H1=>∃a kvs,x=.ref a/\H1 a=some (.dK kvs)/\∀p,H1 p=none->Q (.ref p) (aG H1 p (uB p a))
theorem Bs(ho:PE X o td)(hb:attributeBase o "values" X.env (eval o X.env)=eval o X.env)(hl:(apos.endLine==cpos.line)=true):PE X (.Call (.Attribute o "values" apos) [] [] cpos) (xx td):=by
 intro c s σ H Q I h;refine wpAny_Call_method0_late hb hl (bT (ho c s σ H _ I h) λu d ⟨x,H1,g,q,a,i,v,l,r⟩=>?_);subst v;obtain rfl:u=Value.ref a:=q;obtain⟨p,n,t3⟩:=wt g (.inl ⟨i,.inl l⟩);refine⟨"dict",_,PySem.F.plainAttrs_dict,PySem.F.slot_dict_values,PySem.F.type_dict_values,p,n,?_⟩;refine Calls.callWith_builtin rfl (evalArgs_nil3 ?_);obtain⟨z,j,vs,rel,m⟩:=qK g.hok l;refine call_meetsIn PySem.F.slot_dict_values m.typeIs PySem.F.entry_dict_values (PySem.F.args_dict_values_1 _) (meets_dict_values (bQ X.prog X.w) a j) ⟨⟨_,m⟩,?_⟩;refine⟨.ref d.heap.objs.size,aG H1 d.heap.objs.size (uB d.heap.objs.size a),g.laid (t':=d.toks) (λb u e=>K2 _ e) (Ln _) ?_,rfl,r _ (g.hok.fresh (Ln _))⟩;refine⟨⟨_,K8 _ rfl,rfl,rfl⟩,⟨_,K8 _ rfl⟩,?_⟩;rintro h1 h2 ⟨o,ho,x⟩ k;exact⟨o,k o ho,x⟩
end
end L2
namespace L2
open PySem PySem.Spec PyProof.Rows QL PySem.W
theorem oy{α β:Type}{F:α->β->Prop}:∀{l₁:List α} {l₂:List β} {i:Nat} {a:α},Paired F l₁ l₂->l₁[i]?=some a->∃b,l₂[i]?=some b/\F a b
 |_,_,_,_,.nil,e=>by simp at e
 |_,_,0,_,.cons r _,e=>by simp at e;subst e;exact⟨_,rfl,r⟩
 |_,_,i+1,a,.cons _ t,e=>by
  obtain⟨u,h1,h2⟩:=oy (i:=i) (a:=a) t (by simpa using e);exact⟨u,by simpa using h1,h2⟩
abbrev VE:=cP×Addr×List Str
abbrev Hr(e:VE):cP×V:=(e.1,.ref e.2.1)
abbrev BI(e:VE):V:=.ref e.2.1
def gu(g:List Str->Int)(zs:List VE):Prop:=zs.Pairwise λa b=>TS.ordI.blt (kI (g b.2.2,b.2.2)) (kI (g a.2.2,a.2.2))=false
section
variable {X:Cx}{pins:LX}{σ:St}{H:Hp}{s:LZ}{k:Nat}{f:Addr}{fd:L7}{ps:L9}{sp:Sp}{P:List Str->Prop}{g:List Str->Int}{Q:VK}{vs:L4}{es:List VE}
theorem Dp(F:aS X.prog X.w X.K X.mg X.base bf k f fd ps sp)(hb:dO X.K fd ps [])(hr:cI (k+2) X.A)
  (hsp:∀l ss H Q E,aR X.K H l (ss.map V.str)->P ss->(∀t,H t=none->Q (.ref t) (aG H t (.tup [.int (g ss),.ref l])))->sp [.ref l] H Q E)
  (I:Inv X pins σ H s) (hl:vs.length=es.length) (hz:es.length<=sizeLine) (hit:∀(i:Nat) (x:Value),vs[i]?=some x->∃e:VE,es[i]?=some e/\x=Value.ref e.2.1)
  (hes:∀e,e∈es->aR X.K H e.2.1 (e.2.2.map V.str)/\P e.2.2)
  (q:∀zs:List VE,zs.Perm es->gu g zs->∀(H':Hp) (l:Addr),aA H H'->H l=none->H' l=some (.lst (zs.map BI))->Q (.ref l) H') :
  TS.KeyRun X.prog X.w X.A X.xe f (EP X pins σ Q) vs s:=by
 refine⟨⋯,λe1 a6 M a4=>?_⟩;have hw:(TS.with1 s vs).objs.size=s.heap.objs.size+1:=size_push' ..;rw[hw]at a4;have nL:∀b,s.heap.objs.size<=b->b≠X.env.locals:=λb hb z=>by have h1:(X.env.locals:Nat)<s.heap.objs.size:=I.lt;rw[<- z]at h1;exact q0Q (Li h1 hb) (Lw _)
 have nF:∀b,s.heap.objs.size<=b->b∉X.fs:=λb hb=>I.nofs hb;have nC:∀b,s.heap.objs.size<=b->∀x c,X.env.cells.lookup x=some c->c≠b:=λb hb x c e z=>by
  obtain⟨v,o,ho,_⟩:=I.cell x c e;have h1:=Lq ho;rw[z]at h1;exact q0Q (Li h1 hb) (Lw _)
 have nP:∀b,s.heap.objs.size<=b->∀p∈X.pn++pins,p.1≠b:=λb hb p hp z=>by
  have h1:=Lq (I.pin p hp).1;rw[z]at h1;exact q0Q (Li h1 hb) (Lw _)
 have nS:X.s₀.heap.objs.size<=s.heap.objs.size:=I.sz;have a1:H s.heap.objs.size=none:=I.hok.fresh (Ln _);have Y:∀{L:Hp} {C:LZ} {pins':LX},Inv X (pins++pins') σ L C->∀p∈pins,C.heap.get? p.1=some p.2/\L p.1=none/\p.1≠X.env.locals/\p.1∉X.fs/\∀v,p.2.data≠.cell v:=λJ p hp=>J.pin p (q0C _ (q0D _ hp));have B:∀(xs:Array Value) (n:Nat) (v),(seqObj "list" xs n).data≠.cell v:=λxs n v z=>by cases z
 refine⟨λi kA C=>∃(L:Hp) (D:L5) (e:Nat),Inv X (pins++[(s.heap.objs.size,seqObj "list" #[] e1),(M,seqObj "list" kA e)]) σ L C/\aA H L/\kA.toList=D.map Value.ref/\D.length=i /\
  (∀(j:Nat) (t:Addr) (d:VE),D[j]?=some t->es[j]?=some d->L t=some (.tup [.int (g d.2.2),.ref d.2.1])),?_,?_,?_,?_⟩
 ·have I':Inv X pins σ H {s with heap:=TS.sort1 (TS.with1 s vs) s.heap.objs.size vs}:=by
   refine I.kept (t':=s.toks) λb u e=>?_;have:=Lq e;exact zO (K2 _ e) (Lj this)
  refine⟨H,[],0,I'.pins_of λp hp=>?_,aA.refl _,rfl,rfl,λj t d h=>by simp at h⟩;rcases Ld.mp hp with hp | hp
  ·exact I'.pin p (q0C _ hp)
  ·rcases Lf.mp hp with rfl | hp
   ·exact⟨K2 _ (K2 _ a6),a1,nL _ (Ln _),nF _ (Ln _),B _ _⟩
   ·obtain rfl:=K4.mp hp
    refine⟨?_,I.hok.fresh ⋯,nL _ ⋯,nF _ ⋯,B _ _⟩;have a8:(((TS.with1 s vs).update s.heap.objs.size (Obj.mapSeq λ_=>(#[]:Array Value))).push (seqObj "tuple" vs.toArray 0)).objs.size=M:=by rw[size_push',Heap.size_update,hw];omega
    show(TS.sort1 (TS.with1 s vs) s.heap.objs.size vs).get? M=_;rw[<- a8];exact K8 _ rfl
 ·rintro i kA C ⟨L,D,e,O,sm,hk,S,U⟩
  refine⟨by rw[<- Array.length_toList,hk,K3];exact S,(O.pin (s.heap.objs.size,_) (by simp)).1,e,(O.pin (M,_) (by simp)).1⟩
 ·rintro i x kA C hx ⟨L,D,e,O,sm,hk,S,U⟩
  obtain⟨d,T,rfl⟩:=hit i x hx;have a3:d∈es:=K6 T;have hS:=sm.seq (hes d a3).1;have a2:=hsp d.2.1 d.2.2 L (λv H2=>∃t,v=.ref t/\L t=none/\H2=aG L t (.tup [.int (g d.2.2),.ref d.2.1])) E0 hS (hes d a3).2 λt Z=>⟨t,rfl,Z,rfl⟩;refine wpAny_call (codeAny_mono (F.run X.A.in1.in1 X.stack C L ⟨[.ref d.2.1],[]⟩ [.ref d.2.1] [.ref d.2.1] _ E0 (hr.in1.in1) O.env0.in1.in1 (hb C [.ref d.2.1] O.kIn (by have:=F.len _ _ _ _ a2;simpa using this)) (.cons rfl .nil) a2) λr s2 hq=>?_);cases r with
  |error e=>exact hq
  |ok fl=>
   cases fl with
   |next=>exact False.elim hq
   |brk=>exact False.elim hq
   |cont=>exact False.elim hq
   |ret u=>
    obtain⟨v,H2,I2,rv,t,rfl,Z,rfl⟩:=O.after hq;obtain rfl:u=Value.ref t:=rv;have p0:=I2.pin (s.heap.objs.size,seqObj "list" #[] e1) (by simp);have pk:=I2.pin (M,seqObj "list" kA e) (by simp);have Ia:Inv X (pins++[(s.heap.objs.size,seqObj "list" #[] e1)]) σ (aG L t (.tup [.int (g d.2.2),.ref d.2.1])) s2:=I2.pins_of λp hp=>by
     rcases Ld.mp hp with hp | hp
     ·exact Y I2 p hp
     ·obtain rfl:=K4.mp hp;exact p0
    have Ib:=Ia.turned (t':=s2.toks) (h':=s2.heap.update M (Obj.mapSeq (·.push (Value.ref t)))) (λb o hb e=>(Heap.get?_update_ne _ _ _ _ hb).trans e) pk.2.1 (nL _ ⋯) (.inr ⋯) (nC _ ⋯) (λp hp=>by
     rcases Ld.mp hp with hp | hp
     ·exact nP _ ⋯ p (q0D _ hp)
     ·rcases Ld.mp hp with hp | hp
      ·exact nP _ ⋯ p (q0C _ hp)
      ·obtain rfl:=K4.mp hp;show s.heap.objs.size≠M;omega)
    obtain⟨e',a7⟩:∃e',(s2.heap.update M (Obj.mapSeq (·.push (Value.ref t)))).get? M=some (seqObj "list" (kA.push (Value.ref t)) e'):=⟨_,get?_update_seq pk.1 _⟩;refine⟨⟨e,pk.1⟩,aG L t (.tup [.int (g d.2.2),.ref d.2.1]),D++[t],e',Ib.pins_of λp hp=>?_,sm.trans (ai Z),by simp[hk],by simp[S],λj u e2 h1 h2=>?_⟩
    rotate_right
    ·by_cases hj:j<D.length
     ·rw[Ll hj]at h1
      have q1:=U j u e2 h1 h2;rw[aq (az q1 Z)];exact q1
     ·have:j=D.length:=by have:=(K1.mp h1).1;simp at this;omega
      subst this;rw[List.getElem?_concat_length]at h1;cases h1;rw[S,T]at h2;cases h2;exact af
    ·rcases Ld.mp hp with hp | hp
     ·exact Ib.pin p (q0C _ (q0D _ hp))
     ·rcases Lf.mp hp with rfl | hp
      ·exact Ib.pin (s.heap.objs.size,_) (by simp)
      ·obtain rfl:=K4.mp hp
       exact⟨a7,pk.2.1,nL _ ⋯,nF _ ⋯,B _ _⟩
 ·rintro keys C ⟨L,D,e,O,sm,hk,S,U⟩
  have ez:keys.toList.zip vs=(D.zip es).map λG=>(Value.ref G.1,Value.ref G.2.2.1):=by
   apply List.ext_getElem
   ·simp[hk];omega
   ·intro i i1 i2
    have h1:i<vs.length:=by rw[q0N]at i1;omega
    obtain⟨d,T,hx⟩:=hit i vs[i] (K0 h1);obtain⟨h3,h4⟩:=K1.mp T;simp only[List.getElem_zip,List.getElem_map,hk,hx,h4]
  have tup:∀G,G∈D.zip es->TS.TupI C.heap (Value.ref G.1) (g G.2.2.2,G.2.2.2):=λG a5=>by
   obtain⟨i,hi,e⟩:=List.mem_iff_getElem.mp a5;rw[List.getElem_zip]at e;have h1:i<D.length:=by rw[q0N]at hi;omega
   have h2:i<es.length:=by rw[q0N]at hi;omega
   have q1:=U i D[i] es[i] (K0 h1) (K0 h2);subst e;exact O.pair (x:=.ref D[i]) ⟨D[i],es[i].2.1,rfl,gG.of q1,sm.seq (hes _ (K_ h2)).1⟩ rfl
  have all:∀v,v∈keys.toList->∃k,TS.TupI C.heap v k:=λv hv=>by
   rw[hk]at hv;obtain⟨t,Z,rfl⟩:=LK.mp hv;obtain⟨i,hi,e⟩:=List.mem_iff_getElem.mp Z;refine⟨_,tup (D[i],es[i]'⋯) ?_ |> λz=>by rw[<- e];exact z⟩;refine List.mem_iff_getElem.mpr ⟨i,by rw[q0N];omega,by rw[List.getElem_zip]⟩
  refine⟨tuples' true,TS.rk TS.ordI (TS.keyI C.heap) (keys.zip vs.toArray).toList,λh2 Q hq=>?_,λ_=>TS.cmp_I (by have:=hr.un;show X.A.units+1+1<cLine;omega) λp hp=>all p.1 ?_,λps p1 p2=>?_⟩
  ·have:=TS.kind_I (prog:=X.prog) (w:=X.w) (A:=X.A.in1.in1) (E:=X.xe) (vs:=keys.toList) all (by rw[hk,K3];omega) hq
   simpa using this
  ·rw[ksk_zip]at hp
   exact(List.of_mem_zip hp).1
  ·rw[ksk_zip]at p2
   have p3:=TS.ranks_out p1 p2;obtain⟨R,pm,rfl⟩:=vF p1 _ ez;have mm:∀t,t∈R->t∈D.zip es:=λt Z=>pm.mem_iff.mp Z;rw[List.pairwise_map]at p3;have p4:gu g (R.map (·.2)):=by
    unfold gu;rw[List.pairwise_map];refine(List.Pairwise.and_mem.mp p3).imp ?_;rintro x y ⟨hx,hy,hb⟩;rw[TS.keyI_eq (p:=(Value.ref x.1,Value.ref x.2.2.1)) (tup x (mm x hx)),TS.keyI_eq (p:=(Value.ref y.1,Value.ref y.2.2.1)) (tup y (mm y hy))]at hb;exact hb
   have p5:(R.map (·.2)).Perm es:=(pm.map _).trans (by rw[List.map_snd_zip ⋯]);have qq:=q _ p5 p4;have a0:(((R.map (·.2))).map BI).length<=sizeLine:=by rw[K3,p5.length_eq];exact hz
   have vo:bc ((R.map (·.2)).map BI) (R.map λG=>Value.ref G.2.2.1):=by
    clear p3 p4 p5 qq a0 mm pm p1 p2
    induction R with
    |nil=>exact .nil
    |cons t m ih=>exact .cons rfl ih
   have eo:List.map (λx=>x.2) (List.map (λG:Addr×VE=>(Value.ref G.1,Value.ref G.2.2.1)) R)=R.map λG=>Value.ref G.2.2.1:=by rw[Le];rfl
   rw[eo];generalize(R.map λG=>Value.ref G.2.2.1)=out at vo ⊢;generalize(R.map (·.2)).map BI=zv at vo qq a0;clear p3 p4 p5 pm mm p2 p1 eo;have p0:=O.pin (s.heap.objs.size,seqObj "list" #[] e1) (by simp);have pk:=O.pin (M,seqObj "list" keys e) (by simp);have Ia:Inv X pins σ L C:=O.pins_of (Y O);have Ib:=Ia.turned (t':=C.toks) (h':=C.heap.update M (Obj.mapSeq λ_=>(#[]:Array Value))) (λb o hb e=>(Heap.get?_update_ne _ _ _ _ hb).trans e) pk.2.1 (nL _ ⋯) (.inr ⋯) (nC _ ⋯) (nP _ ⋯);have ga:(C.heap.update M (Obj.mapSeq λ_=>(#[]:Array Value))).get? s.heap.objs.size=some (seqObj "list" #[] e1):=(Heap.get?_update_ne _ _ _ _ (λz=>by have z2:(s.heap.objs.size:Nat)=s.heap.objs.size+1+1:=Eq.trans z a4;omega)).trans p0.1;have Ic:=Ib.adopt (t':=C.toks) (a:=s.heap.objs.size) (o:=.lst zv) (h':=TS.keyEnd C.heap s.heap.objs.size M out.toArray) (λb u hb e=>(Heap.get?_update_ne _ _ _ _ hb).trans e) p0.2.1 (nL _ (Ln _)) nS (nC _ (Ln _)) (nP _ (Ln _))
    (show bK X.prog X.w _ _ _ (.lst zv) from⟨a0,out,_,vo,get?_update_seq ga _⟩)
   exact⟨.ref s.heap.objs.size,_,Ic,rfl,qq _ _ (cO sm a1) a1 af⟩
end
def tU(K:LW)(P:List Str->Prop)(g:List Str->Int)(t:TA):TE:=λσ H Q=>t σ H λxs H1=>∃(p a:Addr) (es:List VE),xs=[.ref p]/\H1 p=some (uB p a)/\H1 a=some (.dK (es.map Hr))/\(∀e,e∈es->aR K H1 e.2.1 (e.2.2.map V.str)/\P e.2.2) /\
 ∀zs:List VE,zs.Perm es->gu g zs->∀(H':Hp) (l:Addr),aA H1 H'->H1 l=none->H' l=some (.lst (zs.map BI))->Q (.ref l) H'
section
variable {X:Cx}{e:Expr}{t:TA}{p fp pos kpos:Pos}{k:Nat}{fx:Str}{ps:L9}{sp:Sp}{P:List Str->Prop}{g:List Str->Int}
theorem zy(hr:cI (k+2) X.A)(hc:X.calm=true)(hg:Gl X "sorted")(hm:X.mg "sorted"=none)(C:dl X.prog X.w X.K X.mg X.base bf k fx ps sp)(hgf:Gl X fx)
  (hsp:∀l ss H Q E,aR X.K H l (ss.map V.str)->P ss->(∀t,H t=none->Q (.ref t) (aG H t (.tup [.int (g ss),.ref l])))->sp [.ref l] H Q E) (ha:PA X [e] t) (hdb:autoParam ((fx==("__debug__":Str))=false) zz2._auto_1)
  (he:autoParam (backTo pos (starEach [e] X.env)=(false,eval e X.env)::backTo pos (starEach [] X.env)) zz0._auto_1) (hpl:autoParam ((backTo pos (starEach [e] X.env)).any (·.1)=false) zz0._auto_1)
  (hall:autoParam ((backToKw pos (keywordEach [⟨some "key",.Name fx fp,kpos⟩] X.env)).all (·.1.isSome)=true) zz0._auto_1) (hkw:autoParam ((backToKw pos (keywordEach [⟨some "key",.Name fx fp,kpos⟩] X.env)).any (·.1.isNone)=false) zz0._auto_1)
  (hks:autoParam ((backToKw pos (keywordEach [⟨some "key",.Name fx fp,kpos⟩] X.env)).filterMap (·.1)=[Str.ofString "key"]) zz0._auto_1) :
  PE X (.Call (.Name "sorted" p) [e] [⟨some "key",.Name fx fp,kpos⟩] pos) (tU X.K P g t):=by
 obtain⟨f,fd,F,G,hkf,L⟩:=C.ex;intro c s σ H Q I h;have hb:bootBuiltins "sorted"=some (.builtin "sorted"):=by decide +kernel
 refine wpAny_Call_Name_kw (fo I hg hm hb ?_);refine callWith_kw (bT (ha pos c s σ H _ I h) λus Y ⟨vs,H1,I1,r,q⟩=>?_) he hpl hall hkw;have hk:PK X [⟨some "key",.Name fx fp,kpos⟩] (kc (tC (.ref f)) nK):=C6 (bZ hgf G rfl hdb) FR;refine bT (hk pos c Y σ H1 (λR H2=>R=[.ref f]/\H2=H1) I1 ⟨rfl,rfl⟩) λws s2 ⟨R,H2,B,Z,ez,eh⟩=>?_;subst ez eh;rw[hks];obtain⟨S,a,y,rfl,hp,O,J,q3⟩:=q;obtain⟨u,rfl,ru⟩:=r.one;cases ru;obtain⟨u2,rfl,D⟩:=Z.one;cases D;show wpAny _ _ (call (.builtin "sorted") [.ref S] [(Str.ofString "key",.ref f)]) _ _ _;refine TS.sorted_key ?_;obtain⟨z,hd,vs,m,dd⟩:=qK B.hok O;obtain⟨ep,da⟩:=dd.dictAt;obtain⟨hv,_⟩:=B.hok _ _ hp;have n:vs.length=y.length:=by rw[<- m.length,K3]
 have hz:y.length<=sizeLine:=by rw[K3]at z;exact z
 refine TS.collect_src (PySem.W.kdl_values (knd:=bQ X.prog X.w) (r:=S) (d:=a) (kvs:=vs) (ep:=ep)) (B.ok.hd hc) ⟨hv,da⟩ ⋯ λh' U acc' kp j=>?_;have I3:=B.kept (t':=U) kp;refine Dp F L hr hsp I3 (by rw[Array.length_toList,j.1,n]) hz (λi x hx=>?_) J q3;obtain⟨kk,o⟩:=j.2 i x (by simpa using hx);have T:i<y.length:=by have:=(K1.mp o).1;omega
 refine⟨y[i],K0 T,?_⟩;have:=oy m (i:=i) (a:=Hr y[i]) (by rw[K5,K0 T];rfl);obtain⟨b,v,_,M⟩:=this;rw[o]at v;cases v;exact M
end
section
variable {prog:L8}{w:Mb}{A:Ma}{E:LV}{s:LZ}
theorem ua{Q:LV}
  (hc:wpAny (model prog w) A.in1 (collect v) (λvs s2=>vs.length<=sizeLine/\∃ss,StrsAre vs ss/\∀(out:L4) (ss':L9),StrsAre out ss'->ss'.Perm ss->ss'.Pairwise (λa b=>¬ b.cps.toList<a.cps.toList)->Q (.ref s2.heap.objs.size) {s2 with heap:=sortedHeap (TS.with1 s2 vs) s2.heap.objs.size vs out.toArray}) E s) :
  wpAny (model prog w) A (call (.builtin "sorted") [v]) Q E s:=by
 refine Calls.call_function_entry kind_sorted plain_sorted entry_sorted (args_sorted1 v) ?_;unfold Builtin.«sorted»;refine q04 (m:=checkCount "sorted" 1 1 _) (q05 ?_)
 refine q04 (q0X hc (λvs s2 ⟨D,ss,c,h⟩=>q04 (wpAny_newList ?_ (hsz:=by omega))) λ_ _ e=>e);have d:(TS.with1 s2 vs).get? s2.heap.objs.size=some (seqObj "list" vs.toArray 0):=K8 _ rfl;show wpAny _ _ _ _ _ {s2 with heap:=TS.with1 s2 vs};refine q04 (q0Y (wpAny_call_entry slot_list_sort ⟨_,d,rfl⟩ entry_list_sort (TS.sort_tree (s:={s2 with heap:=TS.with1 s2 vs}) (kd:=oneType') d D (λh2 Q q=>?_) (λ_=>TS.cmp_one strKind_oneLt c.keysOf) λl i n=>⟨_,rfl,?_⟩) (args_list_sort _)))
 ·obtain⟨v₁,g,bx,rfl⟩:∃v₁ g bx,vs=v₁::g::bx:=by
   match vs,h2 with
   |v₁::g::bx,_=>exact⟨v₁,g,bx,rfl⟩
  rw[keyKind_strs c];exact q05 q
 ·refine q05 ⟨_,rfl,?_⟩
  obtain⟨k,z2⟩:=TS.zip_map2 i;have L:∀u,u∈l.map (·.2)->∃x t,u=Value.str x t:=λu G=>c.all u (k.mem_iff.mp G);refine h _ ((l.map (·.2)).map strOf) (strsAre_map _ L) ((k.map strOf).trans (by rw[c.strs])) ?_;rw[List.pairwise_map,List.pairwise_map];rw[pairsOf_toList]at n;have C:=TS.ranks_out i n;refine(List.Pairwise.and_mem.mp C).imp ?_;rintro p q ⟨J,I,j⟩;have B:=(mem_zip_self (i.mem_iff.mp J));have z:=(mem_zip_self (i.mem_iff.mp I));obtain⟨x,t,r⟩:=c.all _ B.2;obtain⟨y,u,o⟩:=c.all _ z.2;rw[<- B.1,<- z.1,r,o];dsimp only at j;rw[r,o]at j;exact of_decide_eq_false j
end
end L2
namespace Win
abbrev Wn:=List Int
def wn(t l b r:Nat):Wn:=[(t:Int),(l:Int),(b:Int),(r:Int)]
def W4(t l b n:Nat):List Wn:=(List.range n).map λk=>wn t l b (l+1+k)
def W3(c t l n:Nat):List Wn:=(List.range n).flatMap λk=>W4 t l (t+1+k) (c-l)
def W2(r c t n:Nat):List Wn:=(List.range n).flatMap λl=>W3 c t l (r-t)
def W1(r c n:Nat):List Wn:=(List.range n).flatMap λt=>W2 r c t c
def dN(r c:Nat):List Wn:=W1 r c r
theorem D_(t l b n:Nat):W4 t l b (n+1)=W4 t l b n++[wn t l b (l+1+n)]:=by unfold W4;rw[q0M,Lc];rfl
theorem DQ(c t l n:Nat):W3 c t l (n+1)=W3 c t l n++W4 t l (t+1+n) (c-l):=by unfold W3;rw[q0M,List.flatMap_append];simp
theorem Dx(r c t n:Nat):W2 r c t (n+1)=W2 r c t n++W3 c t n (r-t):=by unfold W2;rw[q0M,List.flatMap_append];simp
theorem C9(r c n:Nat):W1 r c (n+1)=W1 r c n++W2 r c n c:=by unfold W1;rw[q0M,List.flatMap_append];simp
def lt:Wn->Wn->Bool
 | [],[]=>false
 | [],_::_=>true
 |_::_,[]=>false
 |x::xs,y::ys=>if x=y then lt xs ys else decide (x<y)
def good(r c:Nat):Wn->Bool
 | [t,l,b,x]=>decide (0<=t)&&decide (t<b)&&decide (b<=(r:Int))&&decide (0<=l)&&decide (l<x)&&decide (x<=(c:Int))
 |_=>false
def A2:Wn->List Wn->Bool
 |_,[]=>true
 |a,w::ws=>lt a w&&A2 w ws
def check(r c:Nat):Bool:=(dN r c).all (good r c)&&A2 [-1,0,0,0] (dN r c)&&((dN r c).length==r*(r+1)/2*(c*(c+1)/2))&&decide ((dN r c).length<=1000)
theorem zq:((List.range 6).all λr=>(List.range 6).all λc=>check (r+1) (c+1))=true:=by decide +kernel
theorem DG{r c:Nat}(hr0:0<r)(hr:r<=6)(hc0:0<c)(hc:c<=6):check r c=true:=by
 have h:=LL.mp zq (r-1) (List.mem_range.mpr ⋯);have h2:=LL.mp h (c-1) (List.mem_range.mpr ⋯);have b:r-1+1=r:=by omega
 have a:c-1+1=c:=by omega
 rw[b,a]at h2;exact h2
def cut(p:List (List Nat))(t l b x:Nat):List (List Nat):=((p.drop t).take (b-t)).map λrow=>(row.drop l).take (x-l)
end Win
namespace SnM
open PySem L2 aJ QL Win
def bB(p:aJ):Prop:=∀row∈p,47∉row
theorem y4(h:bB p):bB (mirror p):=by
 intro row hr;obtain⟨x,a,rfl⟩:=LK.mp hr;rw[List.mem_reverse];exact h x a
theorem xv(hp:rect p r c)(hr:0<r)(h:bB p):bB (aZ p):=by
 intro row a;unfold aZ at a;rw[bp hp hr]at a;obtain⟨i,g,rfl⟩:=LK.mp a;have g:=List.mem_range.mp g;intro d;obtain⟨x,j,e⟩:=LK.mp d;have b:=List.mem_reverse.mp j;have hl:=hp.2 x b;rw[q0A,K0 ⋯,q0L]at e;exact h x b (e▸K_ _)
theorem iA:∀(n:Nat) {p:aJ} {r c:Nat},rect p r c->0<r->0<c->bB p->bB (aQ n p)
 |0,_,_,_,_,_,_,h=>h
 |n+1,p,r,c,hp,hr,hc,h=>by
  have e:aQ (n+1) p=aZ (aQ n p):=(cJ 1 n p).symm;rw[e];have hq:=dm n hp hr hc;refine xv hq ?_ (iA n hp hr hc h)
  split<;>assumption
theorem yP(hp:rect p r c)(hr:0<r)(hc:0<c)(h:bB p)(t:Nat):bB (turned p t):=by
 unfold turned
 split
 ·exact iA _ (b9 hp) hr hc (y4 h)
 ·exact iA _ hp hr hc h
theorem FU{t:Nat}(h:bB p):bB (cut p t l b x):=by
 intro row hr;obtain⟨y,c,rfl⟩:=LK.mp hr;exact λa=>h y (q0I (q0H c)) (q0I (q0H a))
theorem cz{t l b x:Nat}(hp:rect p r c)(h1:t<b)(h2:b<=r)(h3:l<x)(h4:x<=c):rect (cut p t l b x) (b-t) (x-l):=by
 refine⟨?_,λrow hr=>?_⟩
 ·unfold cut;rw[K3,LC,LD,hp.1];omega
 ·obtain⟨y,a,rfl⟩:=LK.mp hr
  have:=hp.2 y (q0I (q0H a));rw[LC,LD];omega
theorem oG{w:Wn}:w∈dN r c↔∃t l b x:Nat,w=wn t l b x/\t<b/\b<=r/\l<x/\x<=c:=by
 unfold dN W1 W2 W3 W4;simp only[List.mem_flatMap,LK,List.mem_range]
 constructor
 ·rintro⟨t,ht,l,hl,k,hk,m,hm,rfl⟩
  exact⟨t,l,t+1+k,l+1+m,rfl,⋯,⋯,⋯,⋯⟩
 ·rintro⟨t,l,b,x,rfl,h1,h2,h3,h4⟩
  exact⟨t,⋯,l,⋯,b-t-1,⋯,x-l-1,⋯,by rw[show t+1+(b-t-1)=b by omega,show l+1+(x-l-1)=x by omega]⟩
def AX(p:aJ)(w:Wn):aJ:=cut p (w.getD 0 0).toNat (w.getD 1 0).toNat (w.getD 2 0).toNat (w.getD 3 0).toNat
theorem mZ(p:aJ)(t l b x:Nat):AX p (wn t l b x)=cut p t l b x:=rfl
def aY(p:aJ)(r c:Nat)(q:aJ):Prop:=∃t l b x u:Nat,t<b/\b<=r/\l<x/\x<=c/\u<8/\q=turned (cut p t l b x) u
theorem qF:aY p r c q↔∃i,i<(dN r c).length/\∃u,u<8/\q=turned (AX p ((dN r c).getD i [])) u:=by
 constructor
 ·rintro⟨t,l,b,x,u,h1,h2,g,d,k,rfl⟩
  obtain⟨i,a,e⟩:=List.mem_iff_getElem.mp (oG.mpr ⟨t,l,b,x,rfl,h1,h2,g,d⟩);refine⟨i,a,u,k,?_⟩;rw[q0A,K0 a,q0L,e,mZ]
 ·rintro⟨i,a,u,j,rfl⟩
  obtain⟨t,l,b,x,e,h1,h2,g,d⟩:=oG.mp (K_ a);refine⟨t,l,b,x,u,h1,h2,g,d,j,?_⟩;rw[q0A,K0 a,q0L,e,mZ]
theorem yd(hp:rect p r c)(hn:bB p){t l b x u:Nat}(h1:t<b)(h2:b<=r)(h3:l<x)(h4:x<=c) :
  turned (cut p t l b x) u≠[]/\bB (turned (cut p t l b x) u)/\∃r' c',rect (turned (cut p t l b x) u) r' c'/\0<r'/\0<c'/\r'<=max r c/\c'<=max r c:=by
 have d:=cz hp h1 h2 h3 h4;have a:=cS d ⋯ ⋯ u;refine⟨λe=>?_,yP d ⋯ ⋯ (FU hn) u,_,_,a,by split<;>omega,by split<;>omega,by split<;>omega,by split<;>omega⟩;have:=a.1;rw[e]at this;simp at this
 split at this<;>omega
abbrev AP:=Addr×aJ
def E5(z:AP):VE:=(.inr (tx (SpM.glue 47 z.2)),z.1,z.2.map tx)
abbrev ji(z:AP):cP×V:=Hr (E5 z)
def lX(zs:List AP)(z:AP):List AP:=if(zs.any λz0=>decide (z0.2=z.2))=true then zs.map (λz0=>if z0.2=z.2 then z else z0) else zs++[z]
theorem dD(h:tx a=tx b):a=b:=by rw[<- dg a,<- dg b,h]
theorem AK{zs:List AP}{z:AP}(inj:∀z0∈zs,SpM.glue 47 z0.2=SpM.glue 47 z.2->z0.2=z.2):du (zs.map ji) (.inr (tx (SpM.glue 47 z.2))) (.ref z.1)=(lX zs z).map ji:=by
 have b:∀z0∈zs,((ji z0).1=Sum.inr (tx (SpM.glue 47 z.2))↔z0.2=z.2):=λz0 c=>⟨λe=>inj z0 c (dD (Sum.inr.inj e)),λe=>by show Sum.inr (tx (SpM.glue 47 z0.2))=_;rw[e]⟩;unfold du lX;have i:((zs.map ji).any λg=>decide (g.1=Sum.inr (tx (SpM.glue 47 z.2))))=zs.any λz0=>decide (z0.2=z.2):=by
  rw[List.any_map];clear inj
  induction zs with
  |nil=>rfl
  |cons a l ih=>
   rw[List.any_cons,List.any_cons,ih λz0 c=>b z0 (Lg _ c)]
   congr 1
   exact decide_eq_decide.mpr (b a (q0B ..))
 rw[i]
 split
 ·rw[Le,Le]
  refine q0K λz0 c=>?_;show(if(ji z0).1=Sum.inr (tx (SpM.glue 47 z.2)) then((ji z0).1,V.ref z.1) else ji z0)=ji (if z0.2=z.2 then z else z0)
  by_cases h:z0.2=z.2
  ·have d:=(b z0 c).mpr h
   rw[q07 d,q07 h,d]
   rfl
  ·rw[q06 λq=>h ((b z0 c).mp q),q06 h]
 ·rw[Lc];rfl
structure fm(H H':Hp)(d:Addr)(dn:aJ->Prop)(zs:List AP)(n:Nat):Prop where
 tbl:H' d=some (.dK (zs.map ji))
 sm:aA H H'
 hd:H d=none
 each:∀z∈zs,H z.1=none/\H' z.1=some (.lst (aw z.2))/\z.2≠[]/\bB z.2/\(z.2.headD []).length<=64
 nda:(zs.map (·.1)).Nodup
 ndp:(zs.map (·.2)).Nodup
 mem:∀q,q∈zs.map (·.2)↔dn q
 len:zs.length<=n
theorem fm.step{H1 H2:Hp}{dn:aJ->Prop}(S:fm H H1 d dn zs n)(sm:aA H1 H2)(hb:H1 b=none)(hb2:H2 b=some (.lst (aw q)))(hq:q≠[])(ns:bB q)(hl:(q.headD []).length<=64) :
  du (zs.map ji) (.inr (tx (SpM.glue 47 q))) (.ref b)=(lX zs (b,q)).map ji/\fm H (aG H2 d (.dK ((lX zs (b,q)).map ji))) d (λx=>dn x\/x=q) (lX zs (b,q)) (n+1):=by
 refine⟨AK (z:=(b,q)) λz0 h0 e=>SpM.glue_inj 47 (S.each z0 h0).2.2.1 hq (S.each z0 h0).2.2.2.1 ns e,?_⟩;have nbd:b≠d:=λe=>by rw[e,S.tbl]at hb;cases hb
 have nzd:∀z∈zs,z.1≠d:=λz hz=>qz (S.each z hz).2.1 S.tbl (by intro e;cases e);have nzb:∀z∈zs,z.1≠b:=λz hz=>az (S.each z hz).2.1 hb;have old:∀z∈zs,H z.1=none/\aG H2 d (.dK ((lX zs (b,q)).map ji)) z.1=some (.lst (aw z.2))/\z.2≠[]/\bB z.2/\(z.2.headD []).length<=64:=λz hz=>by
  obtain⟨h1,h2,h3⟩:=S.each z hz;exact⟨h1,by rw[aq (nzd z hz)];exact sm _ _ h2,h3⟩
 have new:H b=none/\aG H2 d (.dK ((lX zs (b,q)).map ji)) b=some (.lst (aw q))/\q≠[]/\bB q/\(q.headD []).length<=64:=⟨S.sm.free hb,by rw[aq nbd];exact hb2,hq,ns,hl⟩
 by_cases h:(zs.any λz0=>decide (z0.2=q))=true
 ·have e:lX zs (b,q)=zs.map λz0=>if z0.2=q then(b,q) else z0:=by unfold lX;rw[q07 h]
  have e2:((lX zs (b,q)).map (·.2))=zs.map (·.2):=by
   rw[e,Le];refine q0K λz0 _=>?_;show(if z0.2=q then(b,q) else z0).2=z0.2
   split
   ·rename_i hz;exact hz.symm
   ·rfl
  obtain⟨z1,hz1,hz2⟩:=List.any_eq_true.mp h;have hz2:=of_decide_eq_true hz2;refine⟨af,cO (S.sm.trans sm) S.hd,S.hd,?_,?_,by rw[e2];exact S.ndp,λx=>?_,by rw[e,K3];exact Nat.le_succ_of_le S.len⟩
  ·intro z hz
   have hz':=hz;rw[e]at hz';obtain⟨z0,h0,ez⟩:=LK.mp hz'
   split at ez
   ·rw[<- ez];exact new
   ·rw[<- ez];exact old z0 h0
  ·rw[e,Le,List.Nodup,List.pairwise_map]
   have h1:=S.nda;have h2:=S.ndp;rw[List.Nodup,List.pairwise_map]at h1 h2;refine(List.Pairwise.and_mem.mp (h1.and h2)).imp ?_;rintro x y ⟨hx,hy,n1,n2⟩;show(if x.2=q then(b,q) else x).1≠(if y.2=q then(b,q) else y).1
   by_cases c1:x.2=q
   ·rw[q07 c1,q06 λc2=>n2 (c1.trans c2.symm)]
    exact(nzb y hy).symm
   ·rw[q06 c1]
    by_cases c2:y.2=q
    ·rw[q07 c2];exact nzb x hx
    ·rw[q06 c2];exact n1
  ·rw[e2,S.mem]
   refine⟨.inl,λz=>z.elim id λz=>?_⟩;rw[<- S.mem,z];exact LK.mpr ⟨z1,hz1,hz2⟩
 ·have e:lX zs (b,q)=zs++[(b,q)]:=by unfold lX;rw[q06 h]
  refine⟨af,cO (S.sm.trans sm) S.hd,S.hd,?_,?_,?_,λx=>?_,by rw[e,Lm];exact Nat.succ_le_succ S.len⟩
  ·intro z hz
   have hz':=hz;rw[e]at hz';rcases Ld.mp hz' with hz' | hz'
   ·exact old z hz'
   ·rw[K4.mp hz'];exact new
  ·rw[e,Lc,List.nodup_append]
   refine⟨S.nda,by simp,λa ha c hc=>?_⟩;obtain⟨z,hz,rfl⟩:=LK.mp ha;have:c=b:=by simpa using hc
   rw[this];exact nzb z hz
  ·rw[e,Lc,List.nodup_append]
   refine⟨S.ndp,by simp,λa ha c hc=>?_⟩;obtain⟨z,hz,rfl⟩:=LK.mp ha;have:c=q:=by simpa using hc
   rw[this];exact λhz2=>h (List.any_eq_true.mpr ⟨z,hz,q09 hz2⟩)
  ·rw[e,Lc,Ld,S.mem]
   simp
theorem fm.congr{dn dn':aJ->Prop}(S:fm H H' d dn zs n)(h:∀q,dn q↔dn' q):fm H H' d dn' zs n:=⟨S.tbl,S.sm,S.hd,S.each,S.nda,S.ndp,λq=>(S.mem q).trans (h q),S.len⟩
theorem fm.same{H2:Hp}{dn:aJ->Prop}(S:fm H H' d dn zs n)(sm:aA H' H2):fm H H2 d dn zs n:=⟨sm _ _ S.tbl,S.sm.trans sm,S.hd,λz hz=>let ⟨h1,h2,h3⟩:=S.each z hz;⟨h1,sm _ _ h2,h3⟩,S.nda,S.ndp,S.mem,S.len⟩
def gj(ss:L9):Int:=(ss.length:Int)*((ss.headD ⟨#[]⟩).length:Int)
def bg(p:aJ):Nat:=p.length*(p.headD []).length
def Il(a b:aJ):Prop:=bg a<bg b\/bg a=bg b/\a<b
def Fi(p:aJ)(r c:Nat)(qs:List aJ):Prop:=(∀q,q∈qs↔aY p r c q)/\qs.Pairwise Il
theorem xY(p:aJ):((p.map tx).headD ⟨#[]⟩).length=(p.headD []).length:=by
 cases p with
 |nil=>rfl
 |cons r p=>exact aC r
theorem zG(p:aJ):gj (p.map tx)=(bg p:Int):=by
 unfold gj bg;rw[K3,xY];simp
theorem GX(p:aJ):TS.ks (p.map tx)=p:=by
 unfold TS.ks;rw[Le];exact(q0K λr _=>dg r).trans (List.map_id _)
theorem Ev(p:aJ):kI (gj (p.map tx),p.map tx)=((bg p:Int),p):=by
 show(gj (p.map tx),TS.ks (p.map tx))=_;rw[zG,GX]
theorem zY{ws:List AP}(h:gu gj (ws.map E5))(nd:(ws.map (·.2)).Nodup):(ws.map (·.2)).Pairwise Il:=by
 unfold gu at h;rw[List.pairwise_map]at h ⊢;rw[List.Nodup,List.pairwise_map]at nd;refine(h.and nd).imp ?_;rintro a b ⟨c,e⟩;have c:TS.ordI.blt (kI (gj (b.2.map tx),b.2.map tx)) (kI (gj (a.2.map tx),a.2.map tx))=false:=c;rw[Ev,Ev]at c;cases d:TS.ordI.blt ((bg a.2:Int),a.2) ((bg b.2:Int),b.2) with
 |true=>
  have:=of_decide_eq_true d;rcases this with h1 | ⟨h1,h2⟩
  ·exact .inl (Int.ofNat_lt.mp h1)
  ·exact .inr ⟨Int.ofNat.inj h1,h2⟩
 |false=>
  have:=TS.ordI.total _ _ d c;exact q0Q (q0R Prod.snd this) e
theorem j3{t l b x i j:Nat}(hp:rect p r c)(h2:b<=r)(h4:x<=c)(hi:i<b-t)(hj:j<x-l):Az (cut p t l b x) i j=Az p (t+i) (l+j):=by
 have h1:t+i<p.length:=by rw[hp.1];omega
 have h3:(p[t+i]).length=c:=hp.2 _ (K_ _);have a:(cut p t l b x).getD i []=((p.getD (t+i) []).drop l).take (x-l):=by
  unfold cut;simp only[q0A];rw[K5,List.getElem?_take_of_lt hi,List.getElem?_drop,K0 h1]
  rfl
 unfold Az;rw[a];simp only[q0A];rw[List.getElem?_take_of_lt hj,List.getElem?_drop]
theorem xz{t l b x:Nat}(hp:rect p r c)(h1:t<b)(h2:b<=r)(h3:l<x)(h4:x<=c):cut (mirror p) t l b x=mirror (cut p t (c-x) b (c-l)):=by
 have d:=cz hp h1 h2 (show c-x<c-l by omega) (show c-l<=c by omega);refine ki (cz (b9 hp) h1 h2 h3 h4) (r:=b-t) (c:=x-l) ?_ λi j a e=>?_
 ·have:=b9 d
  rwa [show c-l-(c-x)=x-l by omega]at this
 ·rw[j3 (b9 hp) h2 h4 a e,i_ hp ⋯ ⋯,i_ d a ⋯,j3 hp h2 ⋯ a ⋯]
  congr 1
  omega
theorem vA{t l b x:Nat}(hp:rect p r c)(h1:t<b)(h2:b<=c)(h3:l<x)(h4:x<=r):cut (aZ p) t l b x=aZ (cut p (r-x) t (r-l) b):=by
 have e:=cz hp (show r-x<r-l by omega) (show r-l<=r by omega) h1 h2;have a:=bu hp ⋯;refine ki (cz a h1 h2 h3 h4) (r:=b-t) (c:=x-l) ?_ λi j d g=>?_
 ·have:=bu e ⋯
  rwa [show r-l-(r-x)=x-l by omega]at this
 ·rw[j3 a h2 h4 d g,cG hp ⋯ ⋯ ⋯,cG e ⋯ d ⋯,j3 hp ⋯ h2 ⋯ ⋯]
  congr 1
  omega
theorem hJ:∀(n:Nat) {p:aJ} {r c t l b x:Nat},rect p r c->t<b->b<=(if n%2=0 then r else c)->l<x->x<=(if n%2=0 then c else r)->∃t' l' b' x',t'<b'/\b'<=r/\l'<x'/\x'<=c/\cut (aQ n p) t l b x=aQ n (cut p t' l' b' x')
 |0,p,r,c,t,l,b,x,hp,h1,h2,h3,h4=>⟨t,l,b,x,h1,by simpa using h2,h3,by simpa using h4,rfl⟩
 |n+1,p,r,c,t,l,b,x,hp,h1,h2,h3,h4=>by
  have hr:0<r/\0<c:=by
   split at h2<;>split at h4<;>omega
  have e:∀q:aJ,aQ (n+1) q=aQ n (aZ q):=λq=>rfl;rw[e];obtain⟨t',l',b',x',g,d,k,j,i⟩:=hJ n (bu hp hr.1) (t:=t) (l:=l) (b:=b) (x:=x) h1 (by
   by_cases a:n%2=0
   ·rw[q06 ⋯]at h2;rw[q07 a];exact h2
   ·rw[q07 ⋯]at h2;rw[q06 a];exact h2) h3 (by
   by_cases a:n%2=0
   ·rw[q06 ⋯]at h4;rw[q07 a];exact h4
   ·rw[q07 ⋯]at h4;rw[q06 a];exact h4)
  refine⟨r-x',t',r-l',b',⋯,⋯,g,d,?_⟩;rw[i,vA hp g d k j,e]
theorem wg{t l b x u:Nat}(hp:rect p r c)(h1:t<b)(h2:b<=(if u%2=0 then r else c))(h3:l<x)(h4:x<=(if u%2=0 then c else r)):∃t' l' b' x',t'<b'/\b'<=r/\l'<x'/\x'<=c/\cut (turned p u) t l b x=turned (cut p t' l' b' x') u:=by
 have e:u%4%2=u%2:=by omega
 unfold turned
 by_cases h:4<=u
 ·rw[q07 h]
  obtain⟨t',l',b',x',d,a,j,i,g⟩:=hJ (u%4) (b9 hp) h1 (by rw[e];exact h2) h3 (by rw[e];exact h4);refine⟨t',c-x',b',c-l',d,a,⋯,⋯,?_⟩;rw[g,xz hp d a j i,q07 h]
 ·rw[q06 h]
  obtain⟨t',l',b',x',d,a,j,i,g⟩:=hJ (u%4) hp h1 (by rw[e];exact h2) h3 (by rw[e];exact h4);refine⟨t',l',b',x',d,a,j,i,?_⟩;rw[g,q06 h]
theorem DM{t l b x t' l' b' x':Nat}(hp:rect p r c)(h1:t<b)(h2:b<=r)(h3:l<x)(h4:x<=c)(k1:t'<b')(k2:b'<=b-t)(k3:l'<x')(k4:x'<=x-l):cut (cut p t l b x) t' l' b' x'=cut p (t+t') (l+l') (t+b') (l+x'):=by
 have a:=cz hp h1 h2 h3 h4;have g:=cz hp (show t+t'<t+b' by omega) ⋯ (show l+l'<l+x' by omega) ⋯;refine ki (cz a k1 k2 k3 k4) (r:=b'-t') (c:=x'-l') ?_ λi j e d=>?_
 ·rwa [show t+b'-(t+t')=b'-t' by omega,show l+x'-(l+l')=x'-l' by omega]at g
 ·rw[j3 a k2 k4 e d,j3 hp h2 h4 ⋯ ⋯,j3 hp ⋯ ⋯ ⋯ ⋯]
  congr 1<;>omega
theorem Db(hp:rect p r c):cut p 0 0 r c=p:=by
 unfold cut;rw[LU,Nat.sub_zero,Nat.sub_zero,q0F (by rw[hp.1];exact Ln _)]
 conv=>rhs;rw[<- List.map_id p]
 refine q0K λy a=>?_;rw[LU,q0F (by rw[hp.2 y a];exact Ln _)];rfl
theorem qC(hp:rect p r c):p.take n=cut p 0 0 n c:=by
 unfold cut;rw[LU,Nat.sub_zero,Nat.sub_zero]
 conv=>lhs;rw[<- List.map_id (p.take n)]
 refine q0K λy a=>?_;rw[LU,q0F (by rw[hp.2 y (q0H a)];exact Ln _)];rfl
theorem rN(hp:rect p r c):p.drop n=cut p n 0 r c:=by
 unfold cut;rw[Nat.sub_zero,q0F (by rw[LD,hp.1];exact Ln _)]
 conv=>lhs;rw[<- List.map_id (p.drop n)]
 refine q0K λy a=>?_;rw[LU,q0F (by rw[hp.2 y (q0I a)];exact Ln _)];rfl
theorem qx(hp:rect p r c):(p.map λy=>y.take n)=cut p 0 0 r n:=by
 unfold cut;rw[LU,Nat.sub_zero,Nat.sub_zero,q0F (by rw[hp.1];exact Ln _)]
 rfl
theorem rF(hp:rect p r c):(p.map λy=>y.drop n)=cut p 0 n r c:=by
 unfold cut;rw[LU,Nat.sub_zero,q0F (by rw[hp.1];exact Ln _)];refine q0K λy a=>?_;rw[q0F (by rw[LD,hp.2 y a];exact Ln _)]
theorem aY.rect(hp:rect p r c)(h:aY p r c q):∃r' c',rect q r' c'/\0<r'/\0<c'/\r'<=max r c/\c'<=max r c:=by
 obtain⟨t,l,b,x,u,h1,h2,e,d,h5,rfl⟩:=h;have a:=cz hp h1 h2 e d;exact⟨_,_,cS a ⋯ ⋯ u,by split<;>omega,by split<;>omega,by split<;>omega,by split<;>omega⟩
theorem aY.ns(hp:aJ.rect p r c)(hn:bB p)(h:aY p r c q):bB q:=by
 obtain⟨t,l,b,x,u,h1,h2,d,a,h5,rfl⟩:=h;exact(yd hp hn h1 h2 d a).2.1
theorem aY.self(hp:aJ.rect p r c)(r0:0<r)(c0:0<c):aY p r c p:=⟨0,0,r,c,0,r0,Ln _,c0,Ln _,⋯,by rw[mw,Db hp]⟩
theorem aY.turned{u:Nat}(hp:aJ.rect p r c)(h:aY p r c q)(hu:u<8):aY p r c (aJ.turned q u):=by
 obtain⟨t,l,b,x,v,h1,h2,e,d,a,rfl⟩:=h;have g:=cz hp h1 h2 e d;exact⟨t,l,b,x,after v u,h1,h2,e,d,gs a hu,bF g ⋯ ⋯ a hu⟩
theorem aY.cut{t l b x:Nat}(hp:aJ.rect p r c)(h:aY p r c q)(hq:aJ.rect q r' c')(h1:t<b)(h2:b<=r')(h3:l<x)(h4:x<=c'):aY p r c (Win.cut q t l b x):=by
 obtain⟨a,d,o,e,v,k,j,i,g,I,rfl⟩:=h;have n:=cz hp k j i g;have m:=cS n ⋯ ⋯ v;have J:r'=if v%2=0 then o-a else e-d:=by rw[<- hq.1,m.1]
 have L:c'=if v%2=0 then e-d else o-a:=by
  rw[<- bp hq ⋯,bp m (by split<;>omega)]
 obtain⟨y,G,M,w,m1,D,C,B,z⟩:=wg (u:=v) n h1 (by rw[<- J];exact h2) h3 (by rw[<- L];exact h4);rw[z,DM hp k j i g m1 D C B];exact⟨a+y,d+G,a+M,d+w,v,⋯,⋯,⋯,⋯,I,rfl⟩
end SnM
namespace L2
open PySem PySem.Spec PyProof.Rows QL
def jB(x:V)(P:Addr->Prop):Prop:=match x with
 | .ref a=>P a
 |y=>∃a,y=.ref a/\P a
def isInt(x:V)(P:Int->Prop):Prop:=match x with
 | .int a=>P a
 |y=>∃a,y=.int a/\P a
def E_(x:V)(P:Bool->Prop):Prop:=match x with
 | .bl a=>P a
 |y=>∃a,y=.bl a/\P a
def F4(x:V)(P:Str->Prop):Prop:=match x with
 | .str a=>P a
 |y=>∃a,y=.str a/\P a
def F7(xs:List V)(P:V->Prop):Prop:=match xs with
 | [x]=>P x
 |y=>∃x,y=[x]/\P x
theorem eU:jB x P = ∃a,x=.ref a/\P a:=by
 unfold jB;split
 ·simp
 ·rfl
theorem kH:isInt x P = ∃a,x=.int a/\P a:=by
 unfold isInt;split
 ·simp
 ·rfl
theorem CT:E_ x P = ∃a,x=.bl a/\P a:=by
 unfold E_;split
 ·simp
 ·rfl
theorem BO:F4 x P = ∃a,x=.str a/\P a:=by
 unfold F4;split
 ·simp
 ·rfl
theorem vi:F7 xs P = ∃x,xs=[x]/\P x:=by
 unfold F7;split
 ·simp
 ·rfl
theorem Dk{K:LW}:vE K x y H Q=jB x λp=>isInt y λi=>∃xs,aR K H p xs/\∃v,pJ xs i=some v/\Q v H:=by
 rw[yl,eU];unfold yL;simp only[kH]
 refine propext ⟨λ⟨p,xs,i,v,a,b,c,d,e⟩=>⟨p,a,i,b,xs,c,v,d,e⟩,λ⟨p,a,i,b,xs,c,v,d,e⟩=>⟨p,xs,i,v,a,b,c,d,e⟩⟩
theorem Eg{K:LW}:uG K x y H Q=jB x λp=>isInt y λi=>∃xs,gG K H p xs/\∃v,pJ xs i=some v/\Q v H:=by
 rw[yb,eU];unfold zF;simp only[kH]
 refine propext ⟨λ⟨p,xs,i,v,a,b,c,d,e⟩=>⟨p,a,i,b,xs,c,v,d,e⟩,λ⟨p,a,i,b,xs,c,v,d,e⟩=>⟨p,xs,i,v,a,b,c,d,e⟩⟩
def lB(t:TE):TT:=λσ H Q=>t σ H λx H'=>E_ x λk=>Q k H'
def tu(t:TE):TO:=λσ H Q=>t σ H λx H1=>isInt x λi=>Q (some i) H1
def sV(K:LW)(tl:TE):TI:=λσ H R=>tl σ H λx H1=>jB x λa=>(∃xs,aR K H1 a xs)/\R (zT K a) H1
def oF(ta:TA):TI:=λσ H R=>ta σ H λvs H1=>F7 vs λv=>isInt v λj=>-(2 ^ 62)<=j/\j<2 ^ 62/\R (Ao 0 j.toNat) H1
def vY(K:LW)(ta:TE)(f:Str):TE:=λσ H Q=>ta σ H λx H1=>jB x λa=>∃C dx fs,H1 a=some (.ins C dx fs)/\io K C/\au K C f/\∃v,fs.lookup f=some v/\Q v H1
def uz(K:LW)(ta tv:TE)(f:Str):TS:=λD σ H=>tv σ H λy H1=>ta σ H1 λx H2=>jB x λa=>∃C dx fs,H2 a=some (.ins C dx fs)/\io K C/\au K C f/\fs.length<1000 /\
 D.nx σ (aG H2 a (.ins C dx (cE f y fs)))
def kz:V->List V->Hp->VK->Prop:=λx vs H Q=>jB x λl=>F7 vs λy=>∃xs,H l=some (.lst xs)/\xs.length<sizeLine/\Q .non (aG H l (.lst (xs++[y])))
def uo(K:LW):List V->Hp->VK->Prop:=λxs H Q=>F7 xs λx=>jB x λp=>∃ys,aR K H p ys/\Q (.int ys.length) H
def t5:List V->Hp->VK->Prop:=λxs H Q=>F7 xs λx=>F4 x λz=>z.length<=sizeLine/\Q (.int z.length) H
def u7(K:LW)(n:Nat)(t:CY):TG:=λv σ H Q=>jB v λa=>∃xs,gG K H a xs/\xs.length=n/\t xs σ H Q
section
variable {X:Cx}{e a b c l:Expr}{ta tb tc te tl:TE}{pos:Pos}
theorem PT.tm{t:TE}(h:PT X e (qL t)):PT X e (lB t):=λpins s σ H Q I q=>h pins s σ H Q I (by simp only[lB,CT]at q;exact q)
theorem aU{op:CmpOp}{r:R2}(ho:bD X (compareOp op) r)(ha:PE X a ta)(hb:PE X b tb)(hm:behindInMarks op b=false):PT X (.Compare a [op] [b] pos) (lB (EU r ta tb)):=(nn ho ha hb hm).tm
theorem fU(ha:PE X a ta)(he:∀whole,isTrue a X.env whole=(do let v <- whole;standAt a.pos;holding [v] (truthy v))):PT X a (lB ta):=(Gx ha he).tm
theorem dq(h:PE X e te):PO X (some e) (tu te):=λpins s σ H Q I q=>Eh h pins s σ H Q I (by simp only[tu,kH]at q;exact q)
theorem aW{tg:Expr}(hl:PE X l tl):PI X tg l (sV X.K tl):=λpins s σ H R I q=>tX hl pins s σ H R I (by simp only[sV,eU]at q;exact q)
theorem bM{tg:Expr}{ta:TA}{p:Pos}(hg:Gl X "range")(hm:X.mg "range"=none)(ha:PA X [a] ta)(hs:autoParam (starEach [a] X.env=[(false,eval a X.env)]) zz0._auto_1):PI X tg (.Call (.Name "range" p) [a] [] pos) (oF ta):=λpins s σ H R I q=>qW hg hm ha hs pins s σ H R I (by
 have e:oF ta σ H R=vk ta σ H R:=by
  unfold oF vk;refine q0R (ta σ H) (funext λvs=>funext λH1=>?_);simp only[vi,kH];exact propext ⟨λ⟨x,e,j,b,r⟩=>⟨j,by rw[e,b],r⟩,λ⟨j,e,r⟩=>⟨_,e,j,rfl,r⟩⟩
 exact e▸q)
theorem cN:eM X (.builtin "len") (uo X.K):=λpins s σ H xs us Q I r h=>qE pins s σ H xs us Q I r (by
 simp only[uo,vi,eU]at h;obtain⟨x,rfl,p,rfl,ys,h1,h2⟩:=h;exact⟨p,ys,rfl,h1,h2⟩)
theorem br:eM X (.builtin "len") t5:=λpins s σ H xs us Q I r h=>ur pins s σ H xs us Q I r (by
 simp only[t5,vi,BO]at h;obtain⟨x,rfl,p,rfl,h1,h2⟩:=h;exact⟨p,rfl,h1,h2⟩)
theorem dt:Hj X "list.append" kz:=λpins s σ H x vs v us Q I rx rv h=>qB pins s σ H x vs v us Q I rx rv (by
 simp only[kz,vi,eU]at h;obtain⟨l,rfl,y,rfl,xs,h1,h2,h3⟩:=h;exact⟨l,xs,y,rfl,rfl,h1,h2,h3⟩)
theorem cr{f:Str}{value:Expr}{tv:TE}{pos':Pos}(ha:PE X o ta)(hv:PE X value tv)(hs:swapsWith value (some (.Attribute o f pos')) pos.line X.env=pure false):PS X (.Assign [.Attribute o f pos'] value pos) (uz X.K ta tv f):=λpins s σ H D I q=>Fv ha hv hs pins s σ H D I (by
 have e:uz X.K ta tv f D σ H=Cu X.K ta tv f D σ H:=by
  unfold uz Cu;refine q0R (tv σ H) (funext λy=>funext λH1=>q0R (ta σ H1) (funext λx=>funext λH2=>?_));simp only[eU];exact propext ⟨λ⟨a,e,C,b,fs,r⟩=>⟨a,C,b,fs,e,r⟩,λ⟨a,C,b,fs,e,r⟩=>⟨a,e,C,b,fs,r⟩⟩
 exact e▸q)
theorem sM{es:Md}{t:CY}{n:Nat}(hc:X.calm=true)(h:F6 X es t)
  (hn:autoParam ((assignEach es X.env).length=n) zz0._auto_1) (hst:autoParam ((assignEach es X.env).findIdx? (·.1)=none) zz0._auto_1):PG X (.Tuple es k pos) (u7 X.K n t):=λpins s σ H v u Q I r q=>wI hc h hn hst pins s σ H v u Q I r (by
 have e:u7 X.K n t v σ H Q=xK X.K n t v σ H Q:=by
  unfold u7 xK;simp only[eU];exact propext ⟨λ⟨a,e,b,r⟩=>⟨a,b,e,r⟩,λ⟨a,b,e,r⟩=>⟨a,e,b,r⟩⟩
 exact e▸q)
theorem bw{f:Str}(he:PE X e ta)(hb:attributeBase e f X.env (eval e X.env)=eval e X.env):PE X (.Attribute e f pos) (vY X.K ta f):=λpins s σ H Q I q=>wm he hb pins s σ H Q I (by
 have e:vY X.K ta f σ H Q=yT X.K ta f σ H Q:=by
  unfold vY yT;refine q0R (ta σ H) (funext λx=>funext λH1=>?_);simp only[eU];exact propext ⟨λ⟨a,e,C,g,fs,h1,h2,d,v,c,b⟩=>⟨a,C,g,fs,v,e,h1,h2,d,c,b⟩,λ⟨a,C,g,fs,v,e,h1,h2,d,c,b⟩=>⟨a,e,C,g,fs,h1,h2,d,v,c,b⟩⟩
 exact e▸q)
end
section
variable {X:Cx}
def ww:List V->Hp->VK->Prop:=λxs H Q=>∃(z:Str),xs=[.str z]/\z.length<=sizeLine /\
 ∀zs:List Str,zs.Perm (z.cps.toList.map λc=>⟨#[c]⟩)->zs.Pairwise (λa b=>¬ b.cps.toList<a.cps.toList)->∀l,H l=none->Q (.ref l) (aG H l (.lst (zs.map V.str)))
theorem xc(hc:X.calm=true):eM X (.builtin "sorted") ww:=by
 intro pins s σ H xs us Q I r h;obtain⟨z,rfl,y,q⟩:=h;obtain⟨u,rfl,t,rfl⟩:=ou r;refine ua (wpAny_collect_str (A:=X.A.in1) (hn:=y) (show X.A.in1.handled=none from I.ok.hd hc) z t λi a L hg hd ho d=>?_);obtain⟨h',e,R⟩:∃h' e,i={s with heap:=h',toks:=e}:=⟨i.heap,i.toks,by cases s;cases i;simp_all⟩;subst R;have B:bc ((z.cps.toList.map λc=>(⟨#[c]⟩:Str)).map V.str) a.toList:=by
  refine rQ _ _ (by rw[K3,K3];simp[d.1]) λj x u p T=>?_;obtain⟨c,tk2,n,rfl⟩:=d.2 j u (by simpa using T);rw[K5,K5]at p;have S:z.cps.toList[j]?=some c:=by simpa using n
  rw[S]at p;cases p;exact⟨_,rfl⟩
 have O:=fk B;have hn:a.toList.length<=sizeLine:=by rw[Array.length_toList,d.1];exact y
 have D:=I.kept (t':=e) L;refine⟨hn,_,O,λout k J v G=>?_⟩;have l:(TS.with1 {s with heap:=h',toks:=e} a.toList).get? h'.objs.size=some (seqObj "list" a.toList.toArray 0):=K8 _ rfl;obtain⟨U,M⟩:=sortedHeap_at (out:=out.toArray) l;have m:k.length<=sizeLine:=by rw[v.length_eq];have:=B.length;rw[K3]at this;omega
 refine⟨.ref h'.objs.size,_,D.laid (t':=e) (h':=sortedHeap (TS.with1 {s with heap:=h',toks:=e} a.toList) h'.objs.size a.toList out.toArray) (λb o C=>?_) (Ln _) (show bK X.prog X.w _ _ _ (.lst (k.map V.str)) from⟨by rw[K3];exact m,out,U,mn J,M⟩),rfl,q k v G _ (D.hok.fresh (Ln _))⟩;have g:b<h'.objs.size:=Lq C;rw[sortedHeap_old (Lj g) (by show _<(Heap.push _ _).objs.size;rw[size_push'];exact Nat.lt_succ_of_lt g)];exact K2 _ C
end
end L2
set_option maxHeartbeats 4000000
namespace Q39
open PySem L2 aJ QL Win SnM
local macro_rules|`(tactic|ext)=>do
 let f(s:String):Lean.MacroM _:=(s.splitOn ",").toArray.mapM λx=>let i:=Lean.mkIdent (x.splitOn "."|>.foldl .mkStr .anonymous);`(Lean.Parser.Tactic.simpLemma|$i:term)
 let g(s:String):Lean.MacroM _:=(s.splitOn ",").toArray.mapM λx=>let i:=Lean.mkIdent (x.splitOn "."|>.foldl .mkStr .anonymous);`(Lean.Parser.Tactic.simpLemma|↓$i:term)
 let c:="lB,tu,sV,oF,vY,uz,kz,uo,t5,u7,yY,tB,Bg,Bq,EN,Ad,BK,xK,yr,D5,tC,EU,qL,E6,Fa,Hu,Bi,E8,A0,sR,sD,tO,rR,tU,xx,ww,BD,tf,Cw,wF,wW,wJ,Cu,yT,xW,rq,sJ,AB,wL,xi,tQ,Bp,oW,Bz,FI,sH,Fw,FF,Hc,kc,nK,mj,HJ,DL,Fq,HR,Hx,FT,Hz,uc,Bf,EV,FP,G1,Hk,yi,rW,BU,vk,A6,Bx,Fb,ER,yH,AS,qw,yw,L2.start,Lu,List.map_nil,Lb,List.length_nil,List.replicate,List.cons_append,LO,Nat.reduceAdd,Nat.reduceSub,List.getElem?_cons_zero,Ls,List.set_cons_zero,List.set_cons_succ,im,Cx.blk,j5,wz,Cn,CB,Cx.wish,Cx.nox,G8,jv";let d<-f (c++",JY,ID,Kc,Kw,Js,IQ,JT,JO,Dr,FA,AA,Br");let e<-f (c++",Ly,Option.some.injEq,V.int.injEq,V.str.injEq,V.ref.injEq,V.bl.injEq,List.cons.injEq,and_true,true_and,exists_and_left,exists_eq_left',exists_eq_left,decide_eq_true_eq,Bool.not_eq_true',decide_eq_false_iff_not,C_,Option.join_some,Nat.succ_eq_add_one,Nat.zero_add,exists_const,and_assoc,exists_eq,exists_eq',Int.reducePow,Int.reduceNeg,Int.reduceLT,or_true,true_or,reduceCtorEq,Int.zero_add,Bool.false_eq_true,Bool.not_true,Bool.not_false,CW,Eu,Dk,Eg,Ak,yL,zF,Al,rI,eU,kH,CT,BO,vi");let h<-g "reduceIte,HQ,HB,HK,Hm,HD,HH,HW,HL";let e:=e++h
 `(tactic|((try dsimp only[$d,*]);(try simp only[$e,*])))
set_option hygiene false in
local macro_rules|`(tactic|grind)=>`(tactic|(clear h1;refine ao λN1 h1=>?_;ext))
set_option hygiene false in
local macro_rules|`(tactic|symm)=>`(tactic|(refine ao λN1 h1=>?_;ext))
set_option hygiene false in
local macro_rules|`(tactic|ac_nf)=>`(tactic|(refine ao λN2 h2=>?_;ext))
set_option hygiene false in
local macro_rules|`(tactic|walk_at "f")=>`(tactic|refine F.ok sc (λvs H Q E h=>by cases h<;>subst_vars<;>rfl) (λcdv A outer s H vs Q E hr h=>?_))
set_option hygiene false in
local macro_rules|`(tactic|walk_at "x")=>`(tactic|refine F.okX sc (λvs H Q E h=>?_) (λcdv A outer s H vs Q E hr h=>?_))
set_option hygiene false in
local macro_rules|`(tactic|walk_at "c")=>`(tactic|exact⟨rfl,rfl,rfl,by decide +kernel,rfl,by decide +kernel,by decide +kernel⟩)
def fC(i:Nat):Stmt:=PySem.Challenge.pw_quiltlaw_k39_sizes_within_bounds.main.body.getD i (.Pass ⟨0,0,0,0⟩)
def D0:Stmt->List Stmt
 | .ClassDef (body:=b) ..=>b
 |_=>[]
def iB(i j:Nat):Stmt:=(D0 (fC i)).getD j (.Pass ⟨0,0,0,0⟩)
section
variable {P:L8}{w:Mb}{K:W.Frag}{mg:L6}{base:Heap}
abbrev GA(z:Str)(c:Nat):Bool:=!(Builtin.Str.occurrences z ⟨#[c]⟩ 0 z.length 1).isEmpty
abbrev lM:Stmt:=fC 35
def ij(r:LY)(z:Str):Bool:=r.all (GA z)
inductive gL(vs:List V)(H:Hp)(Q:VK)(_E:XK):Prop
 |mk (r:LY) (z:Str) (_:vs=[.str (tx r),.str z]) (_:r.length<=100000) (_:∀H',aA H H'->Q (.bl (ij r z)) H')
theorem xw:aB ["text","letters"] ["text","letters"] (ak lM):=by walk_at "c"
theorem Jf{i c:Nat}(h:(tx r).cps[i]?=some c):r[i]?=some c:=by
 rw[<- h];show r[i]?=r.toArray[i]?;simp
theorem Hn(r:LY):(tx r).cps.size=r.length:=by show r.toArray.size=_;simp
theorem wv{f:Addr}(F:dj K "only_of" "only_of" lM f fd)(nb:NB mg):↑aS 1 f fd ["text","letters"] gL:=by
 have sc:=xw;walk_at "f"
 ·obtain⟨r,z,rfl,hr',q⟩:=h
  refine⟨_,(ag (aH (aN (Cq rfl) rfl nb.all ET (ac (cq ["sign"] [1] rfl (bz.of (by kernel_rfl)) (by kernel_rfl) (F3 (am 0))
    (λ_ _ _ _=>(aD (i:=0) (by show(["sign","letters"]:List Str).Nodup;decide +kernel) rfl (Or.inl rfl))) (λ_ _ _ _=>cv) (λ_ _ _ _=>(dX zn (am 0) (am 1) (by with_unfolding_all rfl)))) ad)))),?_⟩
  ext;refine A7 (x:=tx r) (λi a σ d=>d=H/\a=((r.take i).map (GA z)).map V.bl/\i<=r.length/\∃x,σ=[x,some (.str z)]) ⟨rfl,rfl,Lo _,_,rfl⟩ ?_ ?_ ?_ ?_
  ·rintro i a σ d ⟨_,rfl,k,_⟩
   rw[K3,K3,LC];exact bj ⋯
  ·rintro i a σ d ⟨_,_,h,_⟩
   rw[Hn];exact h
  ·rintro i c a σ d m ⟨rfl,rfl,k,y,rfl⟩
   have b:=Jf m;have g:=(K1.mp b).1;ext;refine⟨?_,g⟩;rw[q0E,b];simp
  ·rintro a σ d ⟨rfl,rfl,_⟩ l j
   refine⟨_,aR.of af,?_⟩;rw[Hn,LB];have e:(r.map (GA z)).all id=ij r z:=by unfold ij;rw[List.all_map];rfl
   rw[e];exact q _ (ai j)
abbrev ld:Stmt:=fC 36
abbrev Ft:Str:="ABCDEFGHIJKLMNOPQRSTUVWXYZ"
def dH(r:LY):Bool:=decide (1<=r.length)&&decide (r.length<=4)&&ij r Ft
inductive jM(vs:List V)(H:Hp)(Q:VK)(_E:XK):Prop
 |mk (r:LY) (_:vs=[.str (tx r)]) (_:r.length<=100000) (_:∀H',aA H H'->Q (.bl (dH r)) H')
theorem wP:aB ["text"] ["text"] (ak ld):=by walk_at "c"
theorem w_{f:Addr}{t1 t2:Tok}(F:dj K "is_name" "is_name" ld f fd)(nb:NB mg)(yaW:mg "LONGEST_NAME"=some (.int 4 t1))(yaC:mg "CAPITALS"=some (.str "ABCDEFGHIJKLMNOPQRSTUVWXYZ" t2))(yag:↑dl 1 "only_of" ["text","letters"] gL):↑aS 2 f fd ["text"] jM:=by
 have sc:=wP;walk_at "f"
 ·obtain⟨r,rfl,a,q⟩:=h
  refine⟨_,(ag (aH (iX (vQ (bD.m0 kR) (bD.m0 kR) aj (aN br rfl nb.len cn (ac (am 0) ad)) (bZ (v:=.int 4) rfl yaW ⟨_,rfl⟩)) (lH (aI yag (hr.mono nofun) rfl aL (ac (am 0) (ac (bZ (v:=.str "ABCDEFGHIJKLMNOPQRSTUVWXYZ") rfl yaC ⟨_,rfl⟩) ad))))))),?_⟩;ext;refine⟨by rw[aC];exact av ⋯,?_⟩;rw[aC];unfold dH at q
  by_cases h1:1<=r.length
  ·rw[q07 ⋯]
   by_cases h2:r.length<=4
   ·rw[q07 ⋯]
    refine⟨r,_,rfl,a,λc b=>?_⟩;have z:=q c b;rw[q09 h1,q09 h2]at z;exact z
   ·rw[q06 ⋯]
    have z:=q H (λ_ _ e=>e);rw[q09 h1,q08 h2]at z;exact z
  ·rw[q06 ⋯]
   have z:=q H (λ_ _ e=>e);rw[q08 h1]at z;exact z
abbrev fS:Stmt:=iB 37 0
inductive df(K:W.Frag)(vs:List V)(H:Hp)(Q:VK)(_E:XK):Prop
 |mk (a C dx l:Addr) (n:LY) (c:Int) (ps:aJ) (_:vs=[.ref a,.str (tx n),.int c,.ref l]) (_:H a=some (.ins C dx [])) (_:io K C) (_:au K C "name") (_:au K C "cost") (_:au K C "part_names") (_:H l=some (.lst (aw ps))) (_:ps.length<=1000) (_:(∀r∈n::ps,r.length<=100000)) (_:((∀r∈n::ps,dH r=true)/\1<=c/\c<=9)) (_:∀H',aA H H'->Q .non (aG H' a (.ins C dx [("name",.str (tx n)),("cost",.int c),("part_names",.ref l)])))
theorem eV{st:Stmt}:PS X st (λ_ _ _=>False):=λ_ _ _ _ _ _ h=>h.elim
theorem sP:aB ["self","name","cost","part_names","text"] ["self","name","cost","part_names"] (ak fS):=by walk_at "c"
theorem sI{f:Addr}(F:dj K "__init__" "Rule.__init__" fS f fd)(nb:NB mg)(yaj:↑dl 2 "is_name" ["text"] jM):↑aS 3 f fd ["self","name","cost","part_names"] (df K):=by
 have sc:=sP;walk_at "f"
 ·obtain⟨a,C,G,l,n,c,b,rfl,U,I,R,O,M,T,hpl,j,ok,good⟩:=h
  refine⟨_,(ae (bd PassesOwn.never rfl (aW (aE Cz (bA (ac (am 1) ad)) (am 3))) (q02 4 sc.nd)
   (ag (bJ (jJ (fU (aI yaj (hr.mono nofun) rfl aL (ac (am 4) ad)) λ_=>rfl))
   (ag eV)
   aP)))
   (ae (bJ (PW.pt (BN (aU (bD.m0 uW) (am 2) aj (aX _)) (xf (aU (bD.m0 mh) (am 2) aj (aX _)))))
   (ag eV)
   aP)
   (ae (cr (am 0) (am 1) rfl)
   (ae (cr (am 0) (am 2) rfl)
   (ag (cr (am 0) (am 3) rfl)))))),?_⟩
  ext;refine⟨av ⋯,λp S=>?_⟩;have m1:aA H (aG H p (.lst [V.str (tx n)])):=ai S;have L:aG H p (.lst [V.str (tx n)]) p=some (.lst [V.str (tx n)]):=af;generalize aG H p (.lst [V.str (tx n)])=H1 at m1 L ⊢;refine⟨_,L,_,m1 _ _ T,by rw[ax];exact av (by simp;omega),λm z=>?_⟩;have D:[V.str (tx n)]++aw b=aw (n::b):=rfl;rw[D];have J:aA H1 (aG H1 m (.lst (aw (n::b)))):=ai z;have o:aG H1 m (.lst (aw (n::b))) m=some (.lst (aw (n::b))):=af;generalize aG H1 m (.lst (aw (n::b)))=H2 at J o ⊢;generalize hqs:n::b=qs at j ok o ⊢;have u:=m1.trans J;refine⟨⟨_,aR.of o⟩,bL (xs:=aw qs) (λi σ k=>aA H2 k/\∃x,σ=[some (.ref a),some (.str (tx n)),some (.int c),some (.ref l),x]) ⟨λ_ _ e=>e,_,rfl⟩ (λi σ k _ h=>aR.of (h.1 _ _ o)) ?_ ?_⟩
  ·rintro i v σ k y ⟨r,x,rfl⟩
   have B:i<qs.length:=by have:=(K1.mp y).1;rwa [ax]at this
   rw[cw B]at y;cases y;ext;refine⟨_,rfl,j _ (K_ B),λH3 q=>⟨_,rfl,?_⟩⟩;rw[q06 (by rw[ok.1 _ (K_ B)];decide)];exact r.trans q
  ·rintro σ k ⟨r,x,rfl⟩
   have d:=u.trans r;ext;rw[q06 ⋯,q06 ⋯];have g:=good k d;have l1:(cE "name" (V.str (tx n)) []).length<=1:=cX _ _ _;have l2:(cE "cost" (V.int c) (cE "name" (V.str (tx n)) [])).length<=2:=Lv (cX _ _ _) ⋯;have d1:¬ (("name":Str)="cost"):=by decide +kernel
   have Z:¬ (("name":Str)="part_names"):=by decide +kernel
   have Y:¬ (("cost":Str)="part_names"):=by decide +kernel
   have e:cE "part_names" (V.ref l) (cE "cost" (V.int c) (cE "name" (V.str (tx n)) []))=[(("name":Str),V.str (tx n)),(("cost":Str),V.int c),(("part_names":Str),V.ref l)]:=by
    simp only[cE,q06 d1,q06 Z,q06 Y]
   refine⟨C,G,[],d _ _ U,I,R,by simp,C,G,_,af,I,O,⋯,C,G,_,af,I,M,⋯,?_⟩;rw[kb,kb,e];exact g
def aT(a:Addr)(H H':Hp):Prop:=∀b o,b≠a->H b=some o->H' b=some o
theorem aT.of(s:aA H H'):aT a H H':=λb o _ e=>s b o e
theorem aT.put(s:aT a H H'):aT a H (aG H' a o):=λb u hb e=>by rw[aq hb];exact s b u hb e
theorem aT.then{H2:Hp}(s:aT a H H')(t:aA H' H2):aT a H H2:=λb u hb e=>t b u (s b u hb e)
theorem aT.trans{H2:Hp}(s:aT a H H')(t:aT a H' H2):aT a H H2:=λb u hb e=>t b u hb (s b u hb e)
abbrev GU:Str:="abcdefghijklmnopqrstuvwxyz"
def mE(r:LY):Bool:=decide (r.length=1)&&ij r GU
def j4(n:LY)(ps:aJ)(c:Int):Prop:=(∀r∈n::ps,dH r=true)/\1<=c/\c<=9
abbrev fG:Stmt:=iB 38 0
inductive gK(K:W.Frag)(vs:List V)(H:Hp)(Q:VK)(_E:XK):Prop
 |mk (a C dx:Addr) (n sg:LY) (c:Int) (_:vs=[.ref a,.str (tx n),.int c,.str (tx sg)]) (_:H a=some (.ins C dx [])) (_:io K C) (_:(au K C "name"/\au K C "cost"/\au K C "part_names"/\au K C "sign")) (_:n.length<=100000) (_:sg.length<=100000) (_:(j4 n [] c/\mE sg=true)) (_:∀(l:Addr) (H':Hp),aT a H H'->H l=none->H' l=some (.lst [])->H' a=some (.ins C dx [("name",.str (tx n)),("cost",.int c),("part_names",.ref l),("sign",.str (tx sg))])->Q .non H')
theorem sL:aB ["self","name","cost","sign"] ["self","name","cost","sign"] (ak fG):=by walk_at "c"
theorem tE{f:Addr}{t3:Tok}(F:dj K "__init__" "CellRule.__init__" fG f fd)(nb:NB mg)(yao:mg "SMALLS"=some (.str "abcdefghijklmnopqrstuvwxyz" t3))
  (yag:↑dl 1 "only_of" ["text","letters"] gL) (zfa:↑y_ 3 "Rule" "__init__" ["self","name","cost","part_names"] (df K)):↑aS 4 f fd ["self","name","cost","sign"] (gK K):=by
 have sc:=sL;walk_at "f"
 ·obtain⟨a,C,d,n,i,c,rfl,u,z,⟨I,G,D,B⟩,J,o,⟨ok,m⟩,good⟩:=h
  refine⟨_,(ae (bE (nr zfa (hr.mono nofun) rfl aL (ac (am 0) (ac (am 1) (ac (am 2) (ac (bA ad) ad))))))
   (ae (bJ (PW.pt (BN (aU GK (aN br rfl nb.len cn (ac (am 3) ad)) aj (aX _)) (xf (jJ (fU (aI yag (hr.mono nofun) rfl aL (ac (am 3) (ac (bZ (v:=.str "abcdefghijklmnopqrstuvwxyz") rfl yao ⟨_,rfl⟩) ad))) λ_=>rfl)))))
   (ag eV)
   aP)
   (ag (cr (am 0) (am 3) rfl)))),?_⟩
  ext;refine⟨Lo _,λl k=>?_⟩;have m1:aA H (aG H l (.lst [])):=ai k;have p:aG H l (.lst []) l=some (.lst []):=af;generalize aG H l (.lst [])=H1 at m1 p ⊢;have j:l≠a:=λe=>by rw[e,u]at k;cases k
  refine⟨a,C,d,l,n,c,[],rfl,m1 _ _ u,z,I,G,D,p,by simp,λr hr=>by rw[show r=n by simpa using hr];exact J,ok,λH2 g=>?_⟩;have q:aT a H (aG H2 a (.ins C d [("name",.str (tx n)),("cost",.int c),("part_names",.ref l)])):=(aT.of (m1.trans g)).put;have y:aG H2 a (.ins C d [("name",.str (tx n)),("cost",.int c),("part_names",.ref l)]) a=some (.ins C d [("name",.str (tx n)),("cost",.int c),("part_names",.ref l)]):=af;have x:aG H2 a (.ins C d [("name",.str (tx n)),("cost",.int c),("part_names",.ref l)]) l=some (.lst []):=by rw[aq j];exact g _ _ p
  generalize aG H2 a (.ins C d [("name",.str (tx n)),("cost",.int c),("part_names",.ref l)])=H3 at q y x ⊢
  try dsimp only
  obtain⟨h1,L⟩:i.length=1/\ij i GU=true:=by
   have h:=m;unfold mE at h;rw[q0O,q0b]at h;exact h
  refine⟨by rw[aC];exact av ⋯,?_⟩;rw[aC,q06 (λh=>h ⋯)];refine⟨i,_,rfl,o,λH4 b=>⟨_,rfl,?_⟩⟩;rw[q06 (by rw[L];decide)];have R:¬ (("name":Str)="sign"):=by decide +kernel
  have O:¬ (("cost":Str)="sign"):=by decide +kernel
  have M:¬ (("part_names":Str)="sign"):=by decide +kernel
  have e:cE "sign" (V.str (tx i)) [(("name":Str),V.str (tx n)),(("cost":Str),V.int c),(("part_names":Str),V.ref l)]=[(("name":Str),V.str (tx n)),(("cost":Str),V.int c),(("part_names":Str),V.ref l),(("sign":Str),V.str (tx i))]:=by
   simp only[cE,q06 R,q06 O,q06 M]
  refine⟨C,d,_,b _ _ y,z,B,by simp,?_⟩;rw[e];exact good l _ (q.then b).put k (by rw[aq j];exact b _ _ x) af
inductive di(K:W.Frag)(vs:List V)(H:Hp)(Q:VK)(_E:XK):Prop
 |mk (a C dx:Addr) (n o1 o2:LY) (c:Int) (_:vs=[.ref a,.str (tx n),.int c,.str (tx o1),.str (tx o2)]) (_:H a=some (.ins C dx [])) (_:io K C) (_:(au K C "name"/\au K C "cost"/\au K C "part_names"/\au K C "one"/\au K C "other")) (_:n.length<=100000) (_:o1.length<=100000) (_:o2.length<=100000) (_:j4 n [o1,o2] c) (_:∀(l:Addr) (H':Hp),aT a H H'->H l=none->H' l=some (.lst (aw [o1,o2]))->H' a=some (.ins C dx [("name",.str (tx n)),("cost",.int c),("part_names",.ref l),("one",.str (tx o1)),("other",.str (tx o2))])->Q .non H')
theorem vU{c:Int}:cE "other" (V.str (tx o2)) (cE "one" (V.str (tx o1)) [(("name":Str),V.str (tx n)),(("cost":Str),V.int c),(("part_names":Str),V.ref l)])=[(("name":Str),V.str (tx n)),(("cost":Str),V.int c),(("part_names":Str),V.ref l),(("one":Str),V.str (tx o1)),(("other":Str),V.str (tx o2))]:=by
 have j:¬ (("name":Str)="one"):=by decide +kernel
 have i:¬ (("cost":Str)="one"):=by decide +kernel
 have g:¬ (("part_names":Str)="one"):=by decide +kernel
 have e:¬ (("name":Str)="other"):=by decide +kernel
 have d:¬ (("cost":Str)="other"):=by decide +kernel
 have b:¬ (("part_names":Str)="other"):=by decide +kernel
 have a:¬ (("one":Str)="other"):=by decide +kernel
 simp only[cE,q06 j,q06 i,q06 g,q06 e,q06 d,q06 b,q06 a]
abbrev dS:Stmt:=iB 39 0
theorem nG:aB ["self","name","cost","one","other"] ["self","name","cost","one","other"] (ak dS):=by walk_at "c"
theorem pA{f:Addr}(F:dj K "__init__" "BesideRule.__init__" dS f fd)(nb:NB mg)
  (zfa:↑y_ 3 "Rule" "__init__" ["self","name","cost","part_names"] (df K)):↑aS 4 f fd ["self","name","cost","one","other"] (di K):=by
 have sc:=nG;walk_at "f"
 ·obtain⟨a,C,b,n,g,d,c,rfl,v,q,⟨I,G,D,B,z⟩,J,o,m,ok,good⟩:=h
  refine⟨_,(ae (bE (nr zfa (hr.mono nofun) rfl aL (ac (am 0) (ac (am 1) (ac (am 2) (ac (bA (ac (am 3) (ac (am 4) ad))) ad))))))
   (ae (cr (am 0) (am 3) rfl)
   (ag (cr (am 0) (am 4) rfl)))),?_⟩
  ext;refine⟨av ⋯,λl k=>?_⟩;have m1:aA H (aG H l (.lst [V.str (tx g),V.str (tx d)])):=ai k;have p:aG H l (.lst [V.str (tx g),V.str (tx d)]) l=some (.lst (aw [g,d])):=af;generalize aG H l (.lst [V.str (tx g),V.str (tx d)])=H1 at m1 p ⊢;have j:l≠a:=λe=>by rw[e,v]at k;cases k
  refine⟨a,C,b,l,n,c,[g,d],rfl,m1 _ _ v,q,I,G,D,p,by simp,λr hr=>?_,ok,λH2 i=>?_⟩
  ·have L:r=n\/r=g\/r=d:=by simpa using hr
   rcases L with rfl | rfl | rfl
   ·exact J
   ·exact o
   ·exact m
  ·have u:aT a H (aG H2 a a⁻¹):=(aT.of (m1.trans i)).put
   have y:aG H2 a a⁻¹ a=some a⁻¹:=af;have x:aG H2 a a⁻¹ l=some (.lst (aw [g,d])):=by rw[aq j];exact i _ _ p
   generalize aG H2 a a⁻¹=H3 at u y x ⊢
   try dsimp only
   refine⟨C,b,_,y,q,B,by simp,C,b,_,af,q,z,?_,?_⟩
   ·exact LH (cX _ _ _) (by simp)
   ·rw[kb,vU]
    exact good l _ u.put k (by rw[aq j];exact x) af
abbrev e_:Stmt:=iB 40 0
theorem p7:aB ["self","name","cost","one","other"] ["self","name","cost","one","other"] (ak e_):=by walk_at "c"
theorem p9{f:Addr}(F:dj K "__init__" "AboveRule.__init__" e_ f fd)(nb:NB mg)
  (zfa:↑y_ 3 "Rule" "__init__" ["self","name","cost","part_names"] (df K)):↑aS 4 f fd ["self","name","cost","one","other"] (di K):=by
 have sc:=p7;walk_at "f"
 ·obtain⟨a,C,b,n,g,d,c,rfl,v,q,⟨I,G,D,B,z⟩,J,o,m,ok,good⟩:=h
  refine⟨_,(ae (bE (nr zfa (hr.mono nofun) rfl aL (ac (am 0) (ac (am 1) (ac (am 2) (ac (bA (ac (am 3) (ac (am 4) ad))) ad))))))
   (ae (cr (am 0) (am 3) rfl)
   (ag (cr (am 0) (am 4) rfl)))),?_⟩
  ext;refine⟨av ⋯,λl k=>?_⟩;have m1:aA H (aG H l (.lst [V.str (tx g),V.str (tx d)])):=ai k;have p:aG H l (.lst [V.str (tx g),V.str (tx d)]) l=some (.lst (aw [g,d])):=af;generalize aG H l (.lst [V.str (tx g),V.str (tx d)])=H1 at m1 p ⊢;have j:l≠a:=λe=>by rw[e,v]at k;cases k
  refine⟨a,C,b,l,n,c,[g,d],rfl,m1 _ _ v,q,I,G,D,p,by simp,λr hr=>?_,ok,λH2 i=>?_⟩
  ·have L:r=n\/r=g\/r=d:=by simpa using hr
   rcases L with rfl | rfl | rfl
   ·exact J
   ·exact o
   ·exact m
  ·have u:aT a H (aG H2 a a⁻¹):=(aT.of (m1.trans i)).put
   have y:aG H2 a a⁻¹ a=some a⁻¹:=af;have x:aG H2 a a⁻¹ l=some (.lst (aw [g,d])):=by rw[aq j];exact i _ _ p
   generalize aG H2 a a⁻¹=H3 at u y x ⊢
   try dsimp only
   refine⟨C,b,_,y,q,B,by simp,C,b,_,af,q,z,?_,?_⟩
   ·exact LH (cX _ _ _) (by simp)
   ·rw[kb,vU]
    exact good l _ u.put k (by rw[aq j];exact x) af
inductive gZ(K:W.Frag)(vs:List V)(H:Hp)(Q:VK)(_E:XK):Prop
 |mk (a C dx:Addr) (n o1:LY) (c t:Int) (_:vs=[.ref a,.str (tx n),.int c,.str (tx o1),.int t]) (_:H a=some (.ins C dx [])) (_:io K C) (_:(au K C "name"/\au K C "cost"/\au K C "part_names"/\au K C "part"/\au K C "turning")) (_:n.length<=100000) (_:o1.length<=100000) (_:(j4 n [o1] c/\0<=t/\t<=7)) (_:∀(l:Addr) (H':Hp),aT a H H'->H l=none->H' l=some (.lst (aw [o1]))->H' a=some (.ins C dx [("name",.str (tx n)),("cost",.int c),("part_names",.ref l),("part",.str (tx o1)),("turning",.int t)])->Q .non H')
theorem Ba{c t:Int}:cE "turning" (V.int t) (cE "part" (V.str (tx o1)) [(("name":Str),V.str (tx n)),(("cost":Str),V.int c),(("part_names":Str),V.ref l)])=[(("name":Str),V.str (tx n)),(("cost":Str),V.int c),(("part_names":Str),V.ref l),(("part":Str),V.str (tx o1)),(("turning":Str),V.int t)]:=by
 have j:¬ (("name":Str)="part"):=by decide +kernel
 have i:¬ (("cost":Str)="part"):=by decide +kernel
 have g:¬ (("part_names":Str)="part"):=by decide +kernel
 have e:¬ (("name":Str)="turning"):=by decide +kernel
 have d:¬ (("cost":Str)="turning"):=by decide +kernel
 have b:¬ (("part_names":Str)="turning"):=by decide +kernel
 have a:¬ (("part":Str)="turning"):=by decide +kernel
 simp only[cE,q06 j,q06 i,q06 g,q06 e,q06 d,q06 b,q06 a]
abbrev fL:Stmt:=iB 41 0
theorem ul:aB ["self","name","cost","part","turning"] ["self","name","cost","part","turning"] (ak fL):=by walk_at "c"
theorem tS{f:Addr}(F:dj K "__init__" "TurnRule.__init__" fL f fd)(nb:NB mg)
  (zfa:↑y_ 3 "Rule" "__init__" ["self","name","cost","part_names"] (df K)):↑aS 4 f fd ["self","name","cost","part","turning"] (gZ K):=by
 have sc:=ul;walk_at "f"
 ·obtain⟨a,C,b,n,d,c,t,rfl,q,o,⟨D,B,z,y,x⟩,G,k,⟨ok,t0,t7⟩,good⟩:=h
  refine⟨_,(ae (bE (nr zfa (hr.mono nofun) rfl aL (ac (am 0) (ac (am 1) (ac (am 2) (ac (bA (ac (am 3) ad)) ad))))))
   (ae (bJ (PW.pt (BN (aU (bD.m0 uW) (am 4) aj (aX _)) (xf (aU (bD.m0 mh) (am 4) aj (aX _)))))
   (ag eV)
   aP)
   (ae (cr (am 0) (am 3) rfl)
   (ag (cr (am 0) (am 4) rfl))))),?_⟩
  ext;refine⟨av ⋯,λl j=>?_⟩;have m1:aA H (aG H l (.lst [V.str (tx d)])):=ai j;have m:aG H l (.lst [V.str (tx d)]) l=some (.lst (aw [d])):=af;generalize aG H l (.lst [V.str (tx d)])=H1 at m1 m ⊢;have i:l≠a:=λe=>by rw[e,q]at j;cases j
  refine⟨a,C,b,l,n,c,[d],rfl,m1 _ _ q,o,D,B,z,m,by simp,λr hr=>?_,ok,λH2 g=>?_⟩
  ·have I:r=n\/r=d:=by simpa using hr
   rcases I with rfl | rfl
   ·exact G
   ·exact k
  ·have p:aT a H (aG H2 a a⁻¹):=(aT.of (m1.trans g)).put
   have v:aG H2 a a⁻¹ a=some a⁻¹:=af;have u:aG H2 a a⁻¹ l=some (.lst (aw [d])):=by rw[aq i];exact g _ _ m
   generalize aG H2 a a⁻¹=H3 at p v u ⊢
   try dsimp only
   rw[q06 ⋯,q06 ⋯];refine⟨C,b,_,v,o,y,by simp,C,b,_,af,o,x,?_,?_⟩
   ·exact LH (cX _ _ _) (by simp)
   ·rw[kb,Ba]
    exact good l _ p.put j (by rw[aq i];exact u) af
abbrev eQ:Stmt:=iB 37 1
inductive cF(K:W.Frag)(vs:List V)(H:Hp)(Q:VK)(_E:XK):Prop
 |mk (a C dx l:Addr) (fs:List (Str×V)) (ps:aJ) (_:vs=[.ref a]) (_:H a=some (.ins C dx fs)) (_:io K C) (_:au K C "part_names") (_:fs.lookup ("part_names":Str)=some (V.ref l)) (_:H l=some (.lst (aw ps))) (_:gx H ps Q)
theorem p6:aB ["self"] ["self"] (ak eQ):=by walk_at "c"
theorem dU{f:Addr}(F:dj K "parts" "Rule.parts" eQ f fd)(nb:NB mg):↑aS 1 f fd ["self"] (cF K):=by
 have sc:=p6;walk_at "f"
 ·obtain⟨a,C,j,l,fs,ps,rfl,i,k,c,d,g,q⟩:=h
  refine⟨_,(ag (aH (dz c8 rfl nb.list fF (ac (bw (am 0) rfl) ad)))),?_⟩;ext;refine⟨C,j,fs,i,k,c,V.ref l,d,l,rfl,_,.inl (aR.of g),λe b=>q e _ b af (ai b)⟩
abbrev Gj(n:LY)(c:Int)(l:Addr)(sg:LY):List (Str×V):=[("name",.str (tx n)),("cost",.int c),("part_names",.ref l),("sign",.str (tx sg))]
abbrev EG(n:LY)(c:Int)(l:Addr)(o1 o2:LY):List (Str×V):=[("name",.str (tx n)),("cost",.int c),("part_names",.ref l),("one",.str (tx o1)),("other",.str (tx o2))]
abbrev Ew(n:LY)(c:Int)(l:Addr)(o1:LY)(t:Int):List (Str×V):=[("name",.str (tx n)),("cost",.int c),("part_names",.ref l),("part",.str (tx o1)),("turning",.int t)]
theorem iZ(h:dH r=true):1<=r.length/\r.length<=4:=by
 unfold dH at h;rw[q0O,q0O,q0b,q0b]at h;exact h.1
theorem zZ(h:mE r=true):r.length=1:=by
 unfold mE at h;rw[q0O,q0b]at h;exact h.1
theorem ao{a b:TS}{D:fW}{σ:St}(h:∀N:St->Hp->Prop,(∀σ2 H2,b D σ2 H2->N σ2 H2)->a {D with nx:=N} σ H):yY a b D σ H:=h (b D) λ_ _ z=>z
abbrev kX:Stmt:=fC 68
inductive oH(vs:List V)(H:Hp)(Q:VK)(_E:XK):Prop
 |mk (i:Int) (_:vs=[.int i]) (_:Q (.bl true) H)
theorem xb:aB ["_law_x"] ["_law_x"] (ak kX):=by walk_at "c"
theorem xC{f:Addr}(F:dj K "_law_whole" "_law_whole" kX f fd)(nb:NB mg):↑aS 1 f fd ["_law_x"] oH:=by
 have sc:=xb;walk_at "f"
 ·obtain⟨i,rfl,q⟩:=h
  refine⟨_,(ag (aH (iX (aN cy rfl nb.isinstance bR (ac (am 0) (ac (sv (v:=.ty "int") rfl nb.int By rfl) ad))) (lH (Fh (aN cy rfl nb.isinstance bR (ac (am 0) (ac (sv (v:=.ty "bool") rfl nb.bool DU rfl) ad)))))))),?_⟩;ext;refine⟨_,jo.int i,_,Bc K _,?_⟩;ext;refine⟨_,jo.int i,_,sW K,?_⟩;exact q
structure RV where
 n:List Nat
 c:Int
 o1:List Nat
 o2:List Nat
 sg:List Nat
 t:Int
abbrev Yaa:=List (Nat×RV)
structure RC where
 rr:Addr
 cc:Addr
 cb:Addr
 ca:Addr
 ct:Addr
def RC.at(R:RC)(k:Nat):Addr:=match k with | 0=>R.cc | 1=>R.cb | 2=>R.ca | _=>R.ct
def vO(k:Nat)(l:Addr)(v:RV):List (Str×V):=match k with | 0=>Gj v.n v.c l v.sg | 1=>EG v.n v.c l v.o1 v.o2 | 2=>EG v.n v.c l v.o1 v.o2 | _=>Ew v.n v.c l v.o1 v.t
def cg(k:Nat)(v:RV):aJ:=match k with | 0=>[] | 1=>[v.o1,v.o2] | 2=>[v.o1,v.o2] | _=>[v.o1]
def IR(k:Nat)(v:RV):Prop:=match k with | 0=>j4 v.n [] v.c/\mE v.sg=true | 1=>j4 v.n [v.o1,v.o2] v.c | 2=>j4 v.n [v.o1,v.o2] v.c | _=>j4 v.n [v.o1] v.c/\0<=v.t/\v.t<=7
structure RV.small(v:RV):Prop where
 n:v.n.length<=1000
 o1:v.o1.length<=1000
 o2:v.o2.length<=1000
 sg:v.sg.length<=1000
structure RV.good(v:RV):Prop where
 n:dH v.n=true
 c1:1<=v.c
 c9:v.c<=9
 o1:dH v.o1=true
 o2:dH v.o2=true
 sg:mE v.sg=true
 t0:0<=v.t
 t7:v.t<=7
theorem RV.good.small{v:RV}(g:v.good):v.small:=⟨by have:=iZ g.n;omega,by have:=iZ g.o1;omega,by have:=iZ g.o2;omega,by have:=zZ g.sg;omega⟩
theorem RV.good.ok{v:RV}(g:v.good):∀k,IR k v
 |0=>⟨⟨λr hr=>by rw[show r=v.n by simpa using hr];exact g.n,g.c1,g.c9⟩,g.sg⟩
 |1=>⟨λr hr=>by rcases(show r=v.n\/r=v.o1\/r=v.o2 by simpa using hr) with rfl | rfl | rfl<;>first | exact g.n | exact g.o1 | exact g.o2,g.c1,g.c9⟩
 |2=>⟨λr hr=>by rcases(show r=v.n\/r=v.o1\/r=v.o2 by simpa using hr) with rfl | rfl | rfl<;>first | exact g.n | exact g.o1 | exact g.o2,g.c1,g.c9⟩
 |_+3=>⟨⟨λr hr=>by rcases(show r=v.n\/r=v.o1 by simpa using hr) with rfl | rfl<;>first | exact g.n | exact g.o1,g.c1,g.c9⟩,g.t0,g.t7⟩
def gb(R:RC)(H:Hp)(k:Nat)(a:Addr)(v:RV):Prop:=∃dx l,H a=some (.ins (R.at k) dx (vO k l v))/\H l=some (.lst (aw (cg k v)))
theorem gb.up(r:gb R H k a v)(s:aA H H'):gb R H' k a v:=by
 obtain⟨b,l,h1,h2⟩:=r;exact⟨b,l,s _ _ h1,s _ _ h2⟩
structure lW(K:W.Frag)(R:RC):Prop where
 i0:jk K R.cc
 i1:jk K R.cb
 i2:jk K R.ca
 i3:jk K R.ct
 a0:au K R.cc "name"/\au K R.cc "cost"/\au K R.cc "part_names"/\au K R.cc "sign"
 a1:au K R.cb "name"/\au K R.cb "cost"/\au K R.cb "part_names"/\au K R.cb "one"/\au K R.cb "other"
 a2:au K R.ca "name"/\au K R.ca "cost"/\au K R.ca "part_names"/\au K R.ca "one"/\au K R.ca "other"
 a3:au K R.ct "name"/\au K R.ct "cost"/\au K R.ct "part_names"/\au K R.ct "part"/\au K R.ct "turning"
 r0:W.kitOne K (.ref R.cc) (.ref R.rr)=some true
 r1:W.kitOne K (.ref R.cb) (.ref R.rr)=some true
 r2:W.kitOne K (.ref R.ca) (.ref R.rr)=some true
 r3:W.kitOne K (.ref R.ct) (.ref R.rr)=some true
 s0:W.kitOne K (.ref R.cc) (.ref R.cc)=some true
 s1:W.kitOne K (.ref R.cb) (.ref R.cb)=some true
 s2:W.kitOne K (.ref R.ca) (.ref R.ca)=some true
 s3:W.kitOne K (.ref R.ct) (.ref R.ct)=some true
theorem lW.icls(rk:lW K R):∀k,jk K (R.at k)
 |0=>rk.i0
 |1=>rk.i1
 |2=>rk.i2
 |_+3=>rk.i3
theorem lW.name(rk:lW K R):∀k,au K (R.at k) "name"/\au K (R.at k) "cost"/\au K (R.at k) "part_names"
 |0=>⟨rk.a0.1,rk.a0.2.1,rk.a0.2.2.1⟩
 |1=>⟨rk.a1.1,rk.a1.2.1,rk.a1.2.2.1⟩
 |2=>⟨rk.a2.1,rk.a2.2.1,rk.a2.2.2.1⟩
 |_+3=>⟨rk.a3.1,rk.a3.2.1,rk.a3.2.2.1⟩
theorem jd(l:Addr)(v:RV):∀k,(vO k l v).lookup ("name":Str)=some (V.str (tx v.n))/\(vO k l v).lookup ("cost":Str)=some (V.int v.c)/\(vO k l v).lookup ("part_names":Str)=some (V.ref l)/\(vO k l v).lookup ("parts":Str)=none/\(vO k l v).lookup ("told":Str)=none
 |0=>⟨rfl,rfl,rfl,rfl,rfl⟩
 |1=>⟨rfl,rfl,rfl,rfl,rfl⟩
 |2=>⟨rfl,rfl,rfl,rfl,rfl⟩
 |_+3=>⟨rfl,rfl,rfl,rfl,rfl⟩
theorem i7{H1 H2:Hp}(hx:H1 x=none)(hd:H1 dx=none)(s:aT x (aG (aG H1 dx o) x o') H2):aA H1 H2:=
 λb u e=>s b u (az e hx) (by rw[aq (az e hx),aq (az e hd)];exact e)
theorem Eo{CX:iy}(h0:∃ps,gI P w K mg base CX k C0 m ps s0)(h1:∃ps,gI P w K mg base CX k C1 m ps s1)(h2:∃ps,gI P w K mg base CX k C2 m ps s2)(h3:∃ps,gI P w K mg base CX k C3 m ps s3) :
  xU P w K mg base CX k m [(C0,s0),(C1,s1),(C2,s2),(C3,s3)]:=⟨λo ho=>by
 simp only[Lf,List.not_mem_nil,or_false]at ho;rcases ho with rfl | rfl | rfl | rfl
 ·exact h0
 ·exact h1
 ·exact h2
 ·exact h3⟩
def oJ(K:W.Frag)(R:RC):List (Addr×Sp):=[(R.cc,cF K),(R.cb,cF K),(R.ca,cF K),(R.ct,cF K)]
theorem zx{R:RC}{k a}{v:RV}{Q:VK}{E:XK}(rk:lW K R)(r:gb R H k a v)(q:gx H (cg k v) Q) :
  ∃o∈oJ K R,∃dx fs,H a=some (.ins o.1 dx fs)/\fs.lookup ("parts":Str)=none/\o.2 [.ref a] H Q E:=by
 obtain⟨dx,l,h1,h2⟩:=r;have b:cF K [.ref a] H Q E:=⟨a,R.at k,dx,l,_,_,rfl,h1,(rk.icls k).cl,(rk.name k).2.2,(jd l v k).2.2.1,h2,q⟩;have mem:(R.at k,cF K)∈oJ K R:=by
  unfold oJ
  match k with
  |0=>simp[RC.at]
  |1=>simp[RC.at]
  |2=>simp[RC.at]
  |_+3=>simp[RC.at]
 exact⟨_,mem,dx,_,h1,(jd l v k).2.2.2.1,b⟩
abbrev iC:Stmt:=fC 48
abbrev ot:Str:="abcdefghijklmnopqrstuvwxyz"
def dB(r:LY):Bool:=decide (1<=r.length)&&decide (r.length<=4)&&ij r ot&&decide ((met (dh (tx r))).length=r.length)
inductive kn(vs:List V)(H:Hp)(Q:VK)(_E:XK):Prop
 |mk (r:LY) (_:vs=[.str (tx r)]) (_:r.length<=1000) (_:∀H',aA H H'->Q (.bl (dB r)) H')
theorem ut:aB ["text"] ["text"] (ak iC):=by walk_at "c"
theorem um{f:Addr}{t1 t2:Tok}(F:dj K "are_signs" "are_signs" iC f fd)(nb:NB mg)(yaD:mg "MOST_SIGNS"=some (.int 4 t1))(yao:mg "SMALLS"=some (.str "abcdefghijklmnopqrstuvwxyz" t2))(yag:↑dl 1 "only_of" ["text","letters"] gL):↑aS 2 f fd ["text"] kn:=by
 have sc:=ut;walk_at "f"
 ·obtain⟨r,rfl,hr',q⟩:=h
  refine⟨_,(ag (aH (iX (vQ (bD.m0 kR) (bD.m0 kR) aj (aN br rfl nb.len cn (ac (am 0) ad)) (bZ (v:=.int 4) rfl yaD ⟨_,rfl⟩)) (iX (aI yag (hr.mono nofun) rfl aL (ac (am 0) (ac (bZ (v:=.str "abcdefghijklmnopqrstuvwxyz") rfl yao ⟨_,rfl⟩) ad))) (lH (dX d0 (zJ rfl (am 0) rfl nb.len rfl nb.set) (aN br rfl nb.len cn (ac (am 0) ad)) (aX _))))))),?_⟩;ext;refine⟨by rw[aC];exact av ⋯,?_⟩;rw[aC];unfold dB at q
  by_cases h1:1<=r.length
  ·rw[q07 ⋯]
   by_cases h2:r.length<=4
   ·rw[q07 ⋯]
    refine⟨r,_,rfl,⋯,λc b=>⟨_,rfl,?_⟩⟩;have z:=q c b;rw[q09 h1,q09 h2]at z;cases a:ij r ot with
    |false=>
     rw[a]at z;rw[q06 (by simp)];exact z
    |true=>
     rw[a]at z;rw[q07 rfl];refine⟨by rw[Hn];unfold scanBound;omega,by exact av ⋯,?_⟩;have e:decide (((met (dh (tx r))).length:Int)=(r.length:Int))=decide ((met (dh (tx r))).length=r.length):=by
      apply decide_eq_decide.mpr
      constructor<;>intro h<;>omega
     rw[e];exact z
   ·rw[q06 ⋯]
    have z:=q H (λ_ _ e=>e);rw[q09 h1,q08 h2]at z;exact z
  ·rw[q06 ⋯]
   have z:=q H (λ_ _ e=>e);rw[q08 h1]at z;exact z
theorem CU{α:Type}{l:List α}{i:Nat}{x:α}(h:l[i]?=some x):l.drop i=x::l.drop (i+1):=by
 obtain⟨a,e⟩:=K1.mp h;rw[q0T a,e]
structure BW(K:W.Frag)(R:RC):Prop where
 kit:∀i j,i<4->j<4->W.kitOne K (.ref (R.at i)) (.ref (R.at j))=some (decide (i=j))
abbrev GT(z x:Str):Bool:=!(Builtin.Str.occurrences z x 0 z.length 1).isEmpty
def fH(sg:Str):Yaa->Nat->Option Nat
 | [],_=>none
 |r::rs,j=>if r.1=0/\GT sg (tx r.2.sg)=false then some j else fH sg rs (j+1)
def g6(sg st:LY)(rs:Yaa):Option (Str×List Int):=
 if dB sg=false then some ("signs",[]) else if dH st=false then some ("start",[]) else if 24<rs.length then some ("rules",[(rs.length:Int)]) else
  match fH (tx sg) rs 0 with
  |some k=>some ("sign",[(k:Int)])
  |none=>none
abbrev eG:Stmt:=fC 47
def bI(R:RC)(H:Hp)(as:L5)(rs:Yaa):Prop:=as.length=rs.length/\∀(i:Nat) a r,as[i]?=some a->rs[i]?=some r->gb R H r.1 a r.2
theorem bI.up(h:bI R H as rs)(s:aA H H'):bI R H' as rs:=⟨h.1,λi a r e1 e2=>(h.2 i a r e1 e2).up s⟩
inductive gy(R:RC)(vs:List V)(H:Hp)(Q:VK)(_E:XK):Prop
 |mk (sg st:LY) (a:Addr) (as:L5) (rs:Yaa) (_:vs=[.str (tx sg),.str (tx st),.ref a]) (_:sg.length<=1000) (_:st.length<=1000) (_:H a=some (.lst (as.map V.ref))) (_:bI R H as rs) (_:(∀r∈rs,r.1<4)) (_:rs.length<=100) (_:g6 sg st rs=none) (_:∀H',aA H H'->Q .non H')
theorem kZ:aB ["signs","start","rules","k","rule"] ["signs","start","rules"] (ak eG):=by walk_at "c"
theorem lV{f:Addr}{t1:Tok}(F:dj K "check_made_of" "check_made_of" eG f fd)(nb:NB mg)(rk:lW K R)(rk4:BW K R)(yaK:mg "MOST_RULES"=some (.int 24 t1))(zSa:mg "CellRule"=some (.ref R.cc))
  (yaA:↑dl 2 "are_signs" ["text"] kn) (yaj:↑dl 2 "is_name" ["text"] jM):↑aS 3 f fd ["signs","start","rules"] (gy R):=by
 have sc:=kZ;walk_at "f"
 ·obtain⟨sg,I,a,L,g,rfl,U,hst,ha,u,Z,hn,c,good⟩:=h
  refine⟨_,(ae (bJ (jJ (fU (aI yaA (hr.mono nofun) rfl aL (ac (am 0) ad)) λ_=>rfl))
   (ag eV)
   aP)
   (ae (bJ (jJ (fU (aI yaj (hr.mono nofun) rfl aL (ac (am 1) ad)) λ_=>rfl))
   (ag eV)
   aP)
   (ae (bJ (aU (bD.m0 mh) (aN cN rfl nb.len cn (ac (am 2) ad)) (bZ (v:=.int 24) rfl yaK ⟨_,rfl⟩) (aX _))
   (ag eV)
   aP)
   (ag (bd PassesOwn.never rfl (sj rfl nb.enumerate (ac (am 2) ad)) (sM (n:=2) rfl (cj (q02 3 sc.nd) (cj (q02 4 sc.nd) gQ)))
   (ag (bJ (PW.pt (tG (fU (aN cy rfl nb.isinstance bR (ac (am 4) (ac (bZ (v:=.ref _) rfl zSa rfl) ad))) λ_=>rfl) (nk (aU tz (bw (am 4) rfl) (am 0) (by with_unfolding_all rfl)))))
   (ag eV)
   aP))))))),?_⟩
  symm;refine⟨sg,rfl,U,λH1 S=>⟨_,rfl,?_⟩⟩;unfold g6 at c;have e1:dB sg=true:=by
   cases e:dB sg with
   |true=>rfl
   |false=>rw[q07 e]at c;cases c
  rw[q06 (by rw[e1];decide)]at c ⊢;refine h1 _ _ ?_;clear h1;ac_nf;refine⟨I,rfl,⋯,λH2 O=>⟨_,rfl,?_⟩⟩;have l:=S.trans O;have e2:dH I=true:=by
   cases e:dH I with
   |true=>rfl
   |false=>rw[q07 e]at c;cases c
  rw[q06 (by rw[e2];decide)]at c ⊢;refine h2 _ _ ?_;clear h2;have G:=l _ _ ha;have D:(L.map V.ref).length=g.length:=by rw[K3];exact u.1
  refine ao λN3 h3=>?_;ext;refine⟨_,aR.of G,?_⟩;rw[D];have a1:¬ 24<g.length:=λh=>by rw[q07 h]at c;cases c
  rw[q06 ⋯];rw[q06 a1]at c;refine h3 _ _ ?_;clear h3;ext;refine⟨_,aR.of G,?_⟩;refine re (xs:=L.map V.ref) (λi σ M=>aA H M/\fH (tx sg) (g.drop i) i=fH (tx sg) g 0/\∃x y,σ=[some (.str (tx sg)),some (.str (tx I)),some (.ref a),x,y]) ⟨l,rfl,_,_,rfl⟩ ?_ ?_ ?_
  ·rintro i σ M _ ⟨q,_⟩
   exact aR.of (q _ _ ha)
  ·rintro i x σ H3 T p ⟨q,hb,x1,y1,rfl⟩ hT
   have C:i<g.length:=by have:=(K1.mp p).1;rw[D]at this;exact this
   obtain⟨d,Y,rfl⟩:∃d,L[i]?=some d/\V.ref d=x:=by
    rw[K5]at p;cases e:L[i]? with
    |none=>rw[e]at p;cases p
    |some d=>rw[e]at p;exact⟨d,rfl,q0S p⟩
   have o:g[i]?=some g[i]:=K0 C;have B:=Z _ (K_ C);generalize g[i]=r at o B;rw[CU o]at hb;have j:aA H (aG H3 T (.tup [V.int (i:Int),V.ref d])):=q.trans (ai hT);have eT:aG H3 T (.tup [V.int (i:Int),V.ref d]) T=some (.tup [V.int (i:Int),V.ref d]):=af;generalize aG H3 T (.tup [V.int (i:Int),V.ref d])=H4 at j eT ⊢;have rr:=(u.2 i d r Y o).up j;obtain⟨dx,pl,m,_⟩:=id rr;ext;refine⟨_,gG.of eT,rfl,_,_,rfl,_,_,rfl,rfl,?_⟩;refine⟨_,(rk.icls r.1).ty m,_,rk4.kit r.1 0 B nofun,?_⟩;have b:(if r.1=0/\GT (tx sg) (tx r.2.sg)=false then some i else fH (tx sg) (g.drop (i+1)) (i+1))=fH (tx sg) g 0:=hb
   by_cases J:r.1=0
   ·rw[q07 (by simp[J])]
    obtain⟨r0,v⟩:=r;have a2:r0=0:=J;subst a2;refine⟨d,rfl,_,_,_,m,rk.i0.cl,rk.a0.2.2.2,_,rfl,_,rfl,?_⟩;have k:GT (tx sg) (tx v.sg)=true:=by
     cases k:GT (tx sg) (tx v.sg) with
     |true=>rfl
     |false=>
      rw[q07 ⟨rfl,k⟩]at b;rw[<- b]at c;cases c
    rw[q06 (by rw[show(!(Builtin.Str.occurrences (tx sg) (tx v.sg) 0 (tx sg).length 1).isEmpty)=true from k];decide)];rw[q06 (λz=>by rw[k]at z;exact q0Q z.2 nofun)]at b;exact⟨j,b⟩
   ·rw[q06 (by simp[J])]
    rw[q06 (λz=>J z.1)]at b;exact⟨j,b⟩
  ·rintro σ M ⟨q,hb,x,y,rfl⟩
   ext;exact good M q
def ic(m:List (Str×List Nat))(z:Str)(i:Nat):List (Str×List Nat):=m.map λq=>if q.1=z then(q.1,q.2++[i]) else q
structure uw(H0:Hp)(p:Addr)(t:NT)(H:Hp):Prop where
 same:aA H0 H
 at_:cZ H p t
 fresh:∀x∈t,H0 x.2.1=none
 nodup:((iz t).map (·.1)).Nodup
theorem oP(t:NT):(iz t).length=t.length:=by unfold iz;rw[K3]
theorem pO(m:List (Str×List Nat))(z:Str):(bX m z).length<=m.length+1:=by
 unfold bX;split
 ·omega
 ·rw[Lm];simp
theorem gP(m:List (Str×List Nat))(z:Str)(i:Nat):(ic m z i).map (·.1)=m.map (·.1):=by
 unfold ic;rw[Le]
 apply q0K;intro q _;simp only[Function.comp]
 split<;>rfl
theorem zj{m:List (Str×List Nat)}{j i:Nat}{q:Str×List Nat}(nd:(m.map (·.1)).Nodup)(hj:m[j]?=some q):m.set j (q.1,q.2++[i])=ic m q.1 i:=by
 unfold ic;apply List.ext_getElem?;intro k;rw[K5,List.getElem?_set];have b:j<m.length:=(K1.mp hj).1
 by_cases e:j=k
 ·subst e
  rw[q07 rfl,q07 b,hj];simp
 ·rw[q06 e]
  cases c:m[k]? with
  |none=>rfl
  |some y=>
   have a:y.1≠q.1:=by
    intro h;have h1:(m.map (·.1))[j]?=some q.1:=by rw[K5,hj];rfl
    have h2:(m.map (·.1))[k]?=some q.1:=by rw[K5,c];simp[h]
    exact e ((List.getElem?_inj (K1.mp h1).1 nd).mp (h1.trans h2.symm))
   simp[a]
theorem uw.free{H0:Hp}{t:NT}(N:uw H0 p t H){l:Addr}(h:H l=none):H0 l=none:=N.same.free h
theorem me{te:TE}{σ:St}{H0 H:Hp}{t:NT}{i:Nat}{Q:VK}(hp:H0 p=none)(hv:σ[i]?=some (some (.ref p)))(hte:∀R:VK,R (.str z) H->te σ H R)(N:uw H0 p t H)(hn:t.length<sizeLine)
  (h:∀(H':Hp) (t':NT) (j:Nat) (x:Str×Addr×List Nat),uw H0 p t' H'->t'[j]?=some x->x.1=z->iz t'=bX (iz t) z->t'.length<=t.length+1->(∀a o,a≠p->H a=some o->H' a=some o)->Q (.ref x.2.1) H'):u4 (Ak i) te (DL nK) σ H Q:=by
 refine⟨.ref p,hv,p,rfl,.inl ⟨_,.inl N.at_.dict⟩,hte _ ⟨Lo _,λl k=>?_⟩⟩;have g:=N.free k;refine N.at_.setdef k hn λH' t' j x v u r d n m=>h H' t' j x ⟨λb o e=>m b o (λq=>by rw[q,hp]at e;exact nomatch e) (N.same b o e),v,λy c=>?_,?_⟩ u r d ?_ m
 ·rcases n y c with q | q
  ·exact N.fresh y q
  ·rw[q];exact g
 ·rw[d];exact ku N.nodup
 ·have:=pO (iz t) z
  rw[<- d,oP,oP]at this;exact this
theorem uw.put{H0:Hp}{t:NT}{j k:Nat}{x:Str×Addr×List Nat}(N:uw H0 p t H)(hj:t[j]?=some x) :
  uw H0 p (t.set j (x.1,x.2.1,x.2.2++[k])) (aG H x.2.1 (.lst (v4 (x.2.2++[k]))))/\iz (t.set j (x.1,x.2.1,x.2.2++[k]))=ic (iz t) x.1 k:=by
 have a:=K6 hj;have e:iz (t.set j (x.1,x.2.1,x.2.2++[k]))=ic (iz t) x.1 k:=by
  rw[D7];exact zj (q:=(x.1,x.2.2)) N.nodup (by unfold iz;rw[K5,hj];rfl)
 refine⟨⟨cO N.same (N.fresh x a),N.at_.put hj,λy b=>?_,?_⟩,e⟩
 ·rcases List.mem_or_eq_of_mem_set b with q | q
  ·exact N.fresh y q
  ·rw[q];exact N.fresh x a
 ·rw[e,gP];exact N.nodup
abbrev dI:Stmt:=fC 49
theorem j7:aB ["start","rules","numbers","k","rule","part"] ["start","rules"] (ak dI):=by walk_at "c"
def dY(m:List (Str×List Nat))(i:Nat)(r:Nat×RV):List (Str×List Nat):=((cg r.1 r.2).map tx).foldl bX (ic (bX m (tx r.2.n)) (tx r.2.n) i)
def ft:Nat->Yaa->List (Str×List Nat)->List (Str×List Nat)
 |_,[],m=>m
 |i,r::rs,m=>ft (i+1) rs (dY m i r)
theorem jO{m:List (Str×List Nat)}{z:Str}{n:Nat}(h:∀q∈m,q.2.length<=n):∀q∈bX m z,q.2.length<=n:=by
 unfold bX;split
 ·exact h
 ·intro q a
  rcases Ld.mp a with z1 | z1
  ·exact h q z1
  ·rw[K4.mp z1];exact Lo _
theorem mz:∀{zs:L9} {m:List (Str×List Nat)} {n:Nat},(∀q∈m,q.2.length<=n)->∀q∈zs.foldl bX m,q.2.length<=n
 | [],_,_,h=>h
 |z::zs,_,_,h=>mz (zs:=zs) (jO h)
theorem vx{m:List (Str×List Nat)}{i n:Nat}{r:Nat×RV}(h:∀q∈m,q.2.length<=n):∀q∈dY m i r,q.2.length<=n+1:=by
 unfold dY;refine mz λq b=>?_;unfold ic at b;obtain⟨c,a,rfl⟩:=LK.mp b;have:=jO h c a
 split
 ·rw[Lm];simp;exact this
 ·omega
theorem o8:∀{rs:Yaa} {i n:Nat} {m:List (Str×List Nat)},(∀q∈m,q.2.length<=n)->∀q∈ft i rs m,q.2.length<=n+rs.length
 | [],_,_,_,h=>h
 |r::rs,i,n,m,h=>λq hq=>by
  have:=o8 (rs:=rs) (i:=i+1) (vx (i:=i) (r:=r) h) q hq;rw[Lb];omega
theorem fQ:∀{rs:Yaa} {i:Nat} {m:List (Str×List Nat)} {r:Nat×RV},ft i (rs++[r]) m=dY (ft i rs m) (i+rs.length) r
 | [],i,m,r=>rfl
 |r0::rs,i,m,r=>by
  show ft (i+1) (rs++[r]) (dY m i r0)=dY (ft (i+1) rs (dY m i r0)) (i+(rs.length+1)) r;rw[fQ,show i+1+rs.length=i+(rs.length+1) by omega]
theorem xD(k:Nat)(v:RV):(cg k v).length<=2:=by
 match k with
 |0=>simp[cg]
 |1=>simp[cg]
 |2=>simp[cg]
 |_+3=>simp[cg]
def aV(z:Str)(rs:Yaa):List (Str×List Nat):=ft 0 rs [(z,[])]
inductive fz(K:W.Frag)(R:RC)(vs:List V)(H:Hp)(Q:VK)(_E:XK):Prop
 |mk (z:Str) (a:Addr) (as:L5) (rs:Yaa) (_:vs=[.str z,.ref a]) (_:H a=some (.lst (as.map V.ref))) (_:bI R H as rs) (_:rs.length<=100) (_:∀p H' t,H p=none->cZ H' p t->iz t=aV z rs->(∀x∈t,H x.2.1=none)->aA H H'->Q (.ref p) H')
theorem jE{f:Addr}(F:dj K "numbers_by_name" "numbers_by_name" dI f fd)(nb:NB mg)(rk:lW K R)(yaz:↑xU 1 "parts" (oJ K R)):↑aS 2 f fd ["start","rules"] (fz K R):=by
 have sc:=j7;walk_at "f"
 ·obtain⟨z,a,as,rs,rfl,ha,U,hn,q⟩:=h
  refine⟨_,(ae (q01 2 sc.nd (DF (BR (pv 0) (bA ad) DK) rfl rfl (by simp) nofun))
   (ae (bd PassesOwn.never rfl (sj rfl nb.enumerate (ac (pv 1) ad)) (wI (n:=2) rfl (cj (q02 3 sc.nd) (cj (q02 4 sc.nd) gQ)))
   (ae (bE (q03 (pC (pv 2) (wm (pv 4) rfl) (bA ad) ⟨rfl,rfl,rfl,rfl⟩) (ac (pv 3) ad)))
   (ag (bd PassesOwn.never rfl (tX (CI yaz (hr.mono nofun) aL (pv 4))) (q02 5 sc.nd)
   (ag (bE (pC (pv 2) (pv 5) (bA ad) ⟨rfl,rfl,rfl,rfl⟩)))))))
   (ag (aH (pv 2))))),?_⟩
  ext;intro p hp;refine⟨Lo _,λl hl=>?_⟩;have g:l≠p:=λe=>by rw[e,af]at hl;exact nomatch hl
  have a0:H l=none:=by rw[aq g]at hl;exact hl
  have a7:a≠p:=λe=>by rw[e,hp]at ha;exact nomatch ha
  have b3:a≠l:=λe=>by rw[e,a0]at ha;exact nomatch ha
  refine⟨by rw[aq (Ne.symm g),af],[(.inr z,.ref l)],rfl,by simp,as.map V.ref,aR.of (by rw[aq a7,aq b3,aq a7];exact ha),?_⟩;refine re (xs:=as.map V.ref) (λi σ B=>aA H B/\∃t,cZ B p t/\(∀x∈t,H x.2.1=none)/\((iz t).map (·.1)).Nodup/\iz t=ft 0 (rs.take i) [(z,[])]/\t.length<=1+3*i/\∃x y u,σ=[some (.str z),some (.ref a),some (.ref p),x,y,u]) ?_ ?_ ?_ ?_
  ·refine⟨λb o e=>?_,[(z,l,[])],⟨by rw[af];rfl,λx c=>?_,by simp⟩,λx c=>?_,by simp[iz],rfl,by simp,_,_,_,rfl⟩
   ·have h1:b≠p:=λq=>by rw[q,hp]at e;exact nomatch e
    have h2:b≠l:=λq=>by rw[q,a0]at e;exact nomatch e
    rw[aq h1,aq h2,aq h1];exact e
   ·rw[K4.mp c,aq g,af];rfl
   ·rw[K4.mp c];exact a0
  ·rintro i σ B _ ⟨sm,_⟩
   exact aR.of (sm _ _ ha)
  ·rintro i x σ H1 T c ⟨sm,t,N,fr,nd,em,hlen,x1,y1,u1,rfl⟩ hT
   have a3:i<rs.length:=by have:=(K1.mp c).1;rw[K3,U.1]at this;exact this
   obtain⟨d,b0,rfl⟩:∃d,as[i]?=some d/\V.ref d=x:=by
    rw[K5]at c;cases e:as[i]? with
    |none=>rw[e]at c;cases c
    |some d=>rw[e]at c;exact⟨d,rfl,q0S c⟩
   have Y:rs[i]?=some rs[i]:=K0 a3;generalize rs[i]=r at Y;have rr:=U.2 i d r b0 Y;have M:aA H (aG H1 T (.tup [V.int (i:Int),V.ref d])):=sm.trans (ai hT);have gT:∀b o,H1 b=some o->aG H1 T (.tup [V.int (i:Int),V.ref d]) b=some o:=ai hT;have eT:gG K (aG H1 T (.tup [V.int (i:Int),V.ref d])) T [V.int (i:Int),V.ref d]:=gG.of af;have N2:=N.grow gT;generalize aG H1 T (.tup [V.int (i:Int),V.ref d])=H2 at M gT eT N2 ⊢;clear gT N hT sm H1;simp only[xK,yr,jv,D5];refine⟨_,_,rfl,eT,rfl,_,_,rfl,_,_,rfl,rfl,?_⟩;refine ao λN1 h1=>?_;have a2:=rr.up M;have NI:uw H p t H2:=⟨M,N2,fr,nd⟩;have hz:sizeLine>1000:=bj nofun;obtain⟨dx,pl,J,_⟩:=id a2;ext;refine me (z:=tx r.2.n) hp rfl (λS hS=>⟨_,rfl,d,_,dx,_,_,rfl,J,(rk.icls r.1).cl,(rk.name r.1).1,(jd pl r.2 r.1).1,hS⟩) NI ⋯ λH3 t3 j x N3 hj c hm a5 hk=>?_;have O:=N3.at_.list x (K6 hj);refine⟨.inl ⟨rfl,_,aR.of O⟩,_,rfl,_,O,?_,h1 _ _ ?_⟩
   ·have h2:(x.1,x.2.2)∈bX (iz t) (tx r.2.n):=by rw[<- hm];exact LK.mpr ⟨x,K6 hj,rfl⟩
    have h3:=jO (o8 (rs:=rs.take i) (i:=0) (n:=0) (m:=[(z,[])]) (λq hq=>by rw[K4.mp hq];exact Lo _)) (z:=tx r.2.n) (x.1,x.2.2) (by rw[<- em];exact h2);rw[LC]at h3;unfold v4;rw[K3];have h4:x.2.2.length<=100:=by simp at h3;omega
    omega
   clear h1;obtain⟨I,C⟩:=N3.put (k:=i) hj;have a4:(t3.set j (x.1,x.2.1,x.2.2++[i])).length<=t.length+1:=by rw[List.length_set];exact a5
   have C:iz (t3.set j (x.1,x.2.1,x.2.2++[i]))=ic (bX (iz t) (tx r.2.n)) (tx r.2.n) i:=by rw[C,hm,c]
   have eI:v4 (x.2.2++[i])=v4 x.2.2++[V.int (i:Int)]:=by unfold v4;rw[Lc];rfl
   rw[eI]at I;generalize t3.set j (x.1,x.2.1,x.2.2++[i])=t4 at I C a4;generalize aG H3 x.2.1 (.lst (v4 x.2.2++[V.int (i:Int)]))=H4 at I ⊢;clear hk O hj N3 hm a5 c NI N2 J a2;have a9:=rr.up I.same;have hpk:=xD r.1 r.2;ext;refine zx rk a9 λlp H5 g a8 a1=>⟨lp,rfl,⟨_,aR.of a8⟩,?_⟩;have b1:lp≠p:=λe=>by rw[e,I.at_.dict]at g;exact nomatch g
   refine bL (xs:=aw (cg r.1 r.2)) (λn σ B=>n<=(cg r.1 r.2).length/\∃L,uw H p L B/\iz L=(((cg r.1 r.2).take n).map tx).foldl bX (ic (bX (iz t) (tx r.2.n)) (tx r.2.n) i)/\L.length<=t.length+1+n/\B lp=some (.lst (aw (cg r.1 r.2)))/\∃u,σ=[some (.str z),some (.ref a),some (.ref p),some (.int (i:Int)),some (.ref d),u])
    ⟨Lo _,t4,⟨I.same.trans a1,I.at_.grow a1,I.fresh,I.nodup⟩,C,a4,a8,_,rfl⟩ ?_ ?_ ?_
   ·rintro n σ B _ ⟨_,L,_,_,_,G,_⟩
    exact aR.of G
   ·rintro n v σ B hv ⟨hn1,L,N',D,a6,G,u,rfl⟩
    have Z:n<(cg r.1 r.2).length:=by have:=(K1.mp hv).1;rwa [ax]at this
    rw[cw Z]at hv;cases hv;ext;refine me (z:=tx (cg r.1 r.2)[n]) hp rfl (λS hS=>⟨_,rfl,hS⟩) N' ⋯ λH6 t6 j x N6 hj c b2 hl6 hk=>?_;refine⟨Z,t6,N6,?_,⋯,hk _ _ b1 G⟩;rw[b2,D,q0E,K0 Z,Lc,List.foldl_append]
    rfl
   ·rintro σ B ⟨_,L,N',D,a6,G,u,rfl⟩
    rw[ax,LB]at D;refine⟨N'.same,L,N'.at_,N'.fresh,N'.nodup,?_,?_,_,_,_,rfl⟩
    ·rw[D,q0E,Y,em]
     show _=ft 0 (rs.take i++[r]) _;rw[fQ,LC,LS (q0P a3),Nat.zero_add]
     rfl
    ·rw[ax]at a6;omega
  ·rintro σ B ⟨sm,t,N,fr,_,em,_,x,y,u,rfl⟩
   ext;refine q p B t hp N ?_ fr sm;rw[em,K3,U.1,LB];rfl
def nO(sg st:LY)(rs:Yaa):Option (Str×List Int):=
 match g6 sg st rs with
 |some y=>some y
 |none=>if 8<(aV (tx st) rs).length then some ("names",[((aV (tx st) rs).length:Int)]) else none
def fV(sg st:LY)(lk pn:Addr):List (Str×V):=[("signs",.str (tx sg)),("start",.str (tx st)),("kept",.ref lk),("numbers",.ref pn)]
def c7(R:RC)(H:Hp)(C dx a:Addr)(sg st:LY)(as:L5)(rs:Yaa):Prop:=
 ∃lk pn t,H a=some (.ins C dx (fV sg st lk pn))/\H lk=some (.lst (as.map V.ref))/\bI R H as rs/\cZ H pn t/\iz t=aV (tx st) rs
def uk(R:RC)(H:Hp)(C dx a:Addr)(sg st:LY)(as:L5)(rs:Yaa)(lk pn:Addr)(t:NT):Prop:=
 H a=some (.ins C dx (fV sg st lk pn))/\H lk=some (.lst (as.map V.ref))/\bI R H as rs/\cZ H pn t/\iz t=aV (tx st) rs
theorem uk.f{st:LY}{lk pn:Addr}{t:NT}(g:uk R H C dx a sg st as rs lk pn t):c7 R H C dx a sg st as rs:=⟨lk,pn,t,g⟩
theorem c7.up{st:LY}(g:c7 R H C dx a sg st as rs)(s:aA H H'):c7 R H' C dx a sg st as rs:=by
 obtain⟨c,b,t,h1,h2,i,e,d⟩:=g;exact⟨c,b,t,s _ _ h1,s _ _ h2,i.up s,e.grow s,d⟩
theorem DJ(k:Nat)(l:Addr)(v:RV):vO k l v≠[]:=λe=>by
 have:=(jd l v k).1;rw[e]at this;exact nomatch this
theorem bI.upX(h:bI R H as rs)(ha:H a=some (.ins C dx []))(s:aT a H H'):bI R H' as rs:=by
 refine⟨h.1,λi b r g c=>?_⟩;obtain⟨d,l,h1,h2⟩:=h.2 i b r g c;refine⟨d,l,s _ _ (λe=>?_) h1,s _ _ (λe=>?_) h2⟩
 ·rw[e,ha]at h1
  have:=q0S h1;exact q0Q (HO.ins.inj this).2.2.symm (DJ _ _ _)
 ·rw[e,ha]at h2;cases h2
abbrev fP:Stmt:=iB 46 0
inductive gW(K:W.Frag)(R:RC)(vs:List V)(H:Hp)(Q:VK)(_E:XK):Prop
 |mk (a C dx l:Addr) (sg st:LY) (as:L5) (rs:Yaa) (_:vs=[.ref a,.str (tx sg),.str (tx st),.ref l]) (_:H a=some (.ins C dx [])) (_:io K C) (_:(au K C "signs"/\au K C "start"/\au K C "kept"/\au K C "numbers")) (_:sg.length<=1000) (_:st.length<=1000) (_:H l=some (.lst (as.map V.ref))) (_:bI R H as rs) (_:(∀r∈rs,r.1<4)) (_:rs.length<=100) (_:nO sg st rs=none) (_:∀H' lk pn t,aT a H H'->uk R H' C dx a sg st as rs lk pn t->H lk=none->H pn=none->(∀x∈t,H x.2.1=none)->Q .non H')
theorem t9:aB ["self","signs","start","rules"] ["self","signs","start","rules"] (ak fP):=by walk_at "c"
theorem rT{f:Addr}{t1:Tok}(F:dj K "__init__" "Grammar.__init__" fP f fd)(nb:NB mg)(yaU:mg "MOST_NAMES"=some (.int 8 t1))
  (yaX:↑dl 3 "check_made_of" ["signs","start","rules"] (gy R)) (ya1:↑dl 2 "numbers_by_name" ["start","rules"] (fz K R)) :
  ↑aS 4 f fd ["self","signs","start","rules"] (gW K R):=by
 have sc:=t9;walk_at "f"
 ·obtain⟨a,C,g,l,b,c,q,I,rfl,ha,cl,⟨n1,n2,n3,n4⟩,a6,a5,hl,J,a7,hn,O,good⟩:=h
  refine⟨_,(ae (bE (aI yaX (hr.mono nofun) rfl aL (ac (am 1) (ac (am 2) (ac (am 3) ad)))))
   (ae (cr (am 0) (am 1) rfl)
   (ae (cr (am 0) (am 2) rfl)
   (ae (cr (am 0) (dz c8 rfl nb.list fF (ac (am 3) ad)) rfl)
   (ae (cr (am 0) (aI ya1 (hr.mono nofun) rfl aL (ac (am 2) (ac (am 3) ad))) rfl)
   (ag (bJ (aU (bD.m0 mh) (aN zD rfl nb.len cn (ac (bw (am 0) rfl) ad)) (bZ (v:=.int 8) rfl yaU ⟨_,rfl⟩) (aX _))
   (ag eV)
   aP))))))),?_⟩
  obtain⟨g0,h8⟩:g6 b c I=none/\¬ 8<(aV (tx c) I).length:=by
   unfold nO at O;cases e:g6 b c I with
   |some y=>rw[e]at O;cases O
   |none=>
    rw[e]at O;exact⟨rfl,λh=>by simp only[]at O;rw[q07 h]at O;cases O⟩
  symm;refine⟨b,c,l,q,I,rfl,a6,a5,hl,J,a7,hn,g0,λH1 G=>h1 _ _ ?_⟩;clear h1;have a1:=G _ _ ha;have Z:l≠a:=λe=>by rw[e,ha]at hl;cases hl
  ac_nf;refine⟨C,g,_,a1,cl,n1,by simp,h2 _ _ ?_⟩;clear h2;have B:aT a H (aG H1 a (.ins C g [("signs",.str (tx b))])):=(aT.of G).put;have U:aG H1 a (.ins C g [("signs",.str (tx b))]) a=some (.ins C g [("signs",.str (tx b))]):=af;show _;change yY _ _ _ _ (aG H1 a (.ins C g [("signs",.str (tx b))]));generalize aG H1 a (.ins C g [("signs",.str (tx b))])=H2 at B U ⊢;clear G a1;refine ao λN3 h3=>?_;ext;have d1:¬ (("signs":Str)="start"):=by decide +kernel
  have e3:cE "start" (V.str (tx c)) [(("signs":Str),V.str (tx b))]=[(("signs":Str),V.str (tx b)),(("start":Str),V.str (tx c))]:=by simp only[cE,q06 d1]
  refine⟨C,g,_,U,cl,n2,by simp,?_⟩;rw[e3];refine h3 _ _ ?_;clear h3;have n:aT a H (aG H2 a (.ins C g [(("signs":Str),V.str (tx b)),(("start":Str),V.str (tx c))])):=B.put;have T:aG H2 a (.ins C g [(("signs":Str),V.str (tx b)),(("start":Str),V.str (tx c))]) a=some (.ins C g [(("signs":Str),V.str (tx b)),(("start":Str),V.str (tx c))]):=af;generalize aG H2 a (.ins C g [(("signs":Str),V.str (tx b)),(("start":Str),V.str (tx c))])=H3 at n T ⊢;clear B U;have a0:=n _ _ Z hl;refine ao λN4 h4=>?_;ext;refine⟨_,.inl (aR.of a0),λd j=>?_⟩;have M:d≠a:=λe=>by rw[e,T]at j;cases j
  have hlk0:d≠l:=λe=>by rw[e,a0]at j;cases j
  have sk:aA H3 (aG H3 d (.lst (q.map V.ref))):=ai j;have ek:aG H3 d (.lst (q.map V.ref)) d=some (.lst (q.map V.ref)):=af;have b1:H d=none:=by
   cases e:H d with
   |none=>rfl
   |some u=>rw[n _ _ M e]at j;cases j
  generalize aG H3 d (.lst (q.map V.ref))=H4 at sk ek ⊢;have d2:¬ (("signs":Str)="kept"):=by decide +kernel
  have d3:¬ (("start":Str)="kept"):=by decide +kernel
  have e4:cE "kept" (V.ref d) [(("signs":Str),V.str (tx b)),(("start":Str),V.str (tx c))]=[(("signs":Str),V.str (tx b)),(("start":Str),V.str (tx c)),(("kept":Str),V.ref d)]:=by simp only[cE,q06 d2,q06 d3]
  refine⟨C,g,_,sk _ _ T,cl,n3,by simp,?_⟩;rw[e4];refine h4 _ _ ?_;clear h4;have k:aT a H (aG H4 a (.ins C g [(("signs":Str),V.str (tx b)),(("start":Str),V.str (tx c)),(("kept":Str),V.ref d)])):=(n.then sk).put;have p:aG H4 a (.ins C g [(("signs":Str),V.str (tx b)),(("start":Str),V.str (tx c)),(("kept":Str),V.ref d)]) a=some (.ins C g [(("signs":Str),V.str (tx b)),(("start":Str),V.str (tx c)),(("kept":Str),V.ref d)]):=af;have S:aG H4 a (.ins C g [(("signs":Str),V.str (tx b)),(("start":Str),V.str (tx c)),(("kept":Str),V.ref d)]) d=some (.lst (q.map V.ref)):=by rw[aq M];exact ek
  generalize aG H4 a (.ins C g [(("signs":Str),V.str (tx b)),(("start":Str),V.str (tx c)),(("kept":Str),V.ref d)])=H5 at k p S ⊢;refine ao λN5 h5=>?_;ext;refine⟨tx c,l,q,I,rfl,k _ _ Z hl,J.upX ha k,hn,λi H6 t m hN hm a8 D=>?_⟩;have L:i≠a:=λe=>by rw[e,p]at m;cases m
  have hpk:i≠d:=λe=>by rw[e,S]at m;cases m
  have b0:H i=none:=by
   cases e:H i with
   |none=>rfl
   |some u=>rw[k _ _ L e]at m;cases m
  have a9:∀x∈t,H x.2.1=none:=λx hx=>by
   have o:=a8 x hx;cases e:H x.2.1 with
   |none=>rfl
   |some u=>rw[k _ _ (λz=>by rw[z,p]at o;cases o) e]at o;cases o
  have d4:¬ (("signs":Str)="numbers"):=by decide +kernel
  have d5:¬ (("start":Str)="numbers"):=by decide +kernel
  have d6:¬ (("kept":Str)="numbers"):=by decide +kernel
  have e6:cE "numbers" (V.ref i) [(("signs":Str),V.str (tx b)),(("start":Str),V.str (tx c)),(("kept":Str),V.ref d)]=fV b c d i:=by unfold fV;simp only[cE,q06 d4,q06 d5,q06 d6]
  have a4:=D _ _ p;refine⟨C,g,_,a4,cl,n4,by simp,?_⟩;rw[e6];refine h5 _ _ ?_;clear h5;have r:aT a H (aG H6 a (.ins C g (fV b c d i))):=(k.then D).put;have gf:uk R (aG H6 a (.ins C g (fV b c d i))) C g a b c q I d i t:=by
   refine⟨af,by rw[aq M];exact D _ _ S,J.upX ha r,⟨by rw[aq L];exact hN.dict,λx hx=>?_,hN.apart⟩,hm⟩;have hq:=hN.list x hx;rw[aq (λe=>by rw[e,a4]at hq;cases hq)];exact hq
  have a3:aG H6 a (.ins C g (fV b c d i)) a=some (.ins C g (fV b c d i)):=af;have a2:aG H6 a (.ins C g (fV b c d i)) i=some (.dK (uL t)):=by rw[aq L];exact hN.dict
  generalize aG H6 a (.ins C g (fV b c d i))=H7 at r gf a3 a2 ⊢;have Y:(uL t).length=(aV (tx c) I).length:=by rw[<- hm];unfold uL iz;rw[K3,K3]
  ext;refine⟨C,g,_,a3,cl,n4,_,rfl,i,rfl,_,a2,?_⟩;rw[Y];rw[q06 ⋯];exact good H7 d i t r gf b1 b0 a9
abbrev fM:Stmt:=iB 46 2
inductive eN(R:RC)(C:Addr)(vs:List V)(H:Hp)(Q:VK)(_E:XK):Prop
 |mk (a dx:Addr) (sg st:LY) (as:L5) (rs:Yaa) (k:Nat) (b:Addr) (_:vs=[.ref a,.int (k:Int)]) (_:c7 R H C dx a sg st as rs) (_:as[k]?=some b) (_:Q (.ref b) H)
theorem tY:aB ["self","k"] ["self","k"] (ak fM):=by walk_at "c"
theorem sd{f:Addr}(F:dj K "rule" "Grammar.rule" fM f fd)(nb:NB mg)(cl:io K C)(na:au K C "signs"/\au K C "start"/\au K C "kept"/\au K C "numbers"):↑aS 1 f fd ["self","k"] (eN R C):=by
 have sc:=tY;walk_at "f"
 ·obtain⟨a,j,sg,st,as,rs,k,b,rfl,g,e,q⟩:=h
  obtain⟨c,pn,t,i,d,hrs,hN,hm⟩:=id g;have hu:=hr.units;refine⟨_,(ag (aH (ba bS (bw (am 0) rfl) (am 1) (λ_ _=>rfl)))),?_⟩;ext;exact⟨C,j,_,i,cl,na.2.2.1,_,rfl,c,rfl,_,aR.of d,_,bV (by rw[K5,e];rfl),q⟩
theorem qD(z:Str):∀t:NT,(iz t).lookup z=(t.find? λx=>decide (x.1=z)).map (·.2.2)
 | []=>rfl
 |x::t=>by
  have ih:=qD z t;unfold iz at ih ⊢;rw[Lu,List.lookup_cons,List.find?_cons]
  by_cases e:x.1=z
  ·simp[e]
  ·have e':(z==x.1)=false:=by simpa using λh=>e h.symm
   rw[e',ih];simp[e]
abbrev cQ:Stmt:=iB 46 5
inductive cL(R:RC)(C CN:Addr)(vs:List V)(H:Hp)(Q:VK)(E:XK):Prop
 |mk (a dx:Addr) (sg st:LY) (as:L5) (rs:Yaa) (z:Str) (_:vs=[.ref a,.str z]) (_:c7 R H C dx a sg st as rs) (_:(∀ns,(aV (tx st) rs).lookup z=some ns->∀l H',H l=none->H' l=some (.lst (v4 ns))->aA H H'->Q (.ref l) H')) (_:((aV (tx st) rs).lookup z=none->E (.ref CN) none H))
theorem j0:aB ["self","name"] ["self","name"] (ak cQ):=by walk_at "c"
theorem jF{f yac:Addr}(F:dj K "numbers_of" "Grammar.numbers_of" cQ f fd)(nb:NB mg)(cl:io K C)(na:au K C "signs"/\au K C "start"/\au K C "kept"/\au K C "numbers")(yai:mg "NoName"=some (.ref yac))(ya7:XR K yac):aS P w K mg base (j8 P w) 1 f fd ["self","name"] (cL R C yac):=by
 have sc:=j0;walk_at "x"
 ·obtain⟨a,e,o,n,v,p,z,rfl,_⟩:=h;rfl
 ·obtain⟨a,e,o,n,v,p,z,rfl,g,q,x⟩:=h
  obtain⟨lk,i,t,m,hk,hrs,d,u⟩:=id g;have j:=hr.units;refine⟨_,(ae (bJ (lI (k_ (LH (LM (by decide:1<=64) _) j) (am 1) (bw (am 0) rfl)) (by with_unfolding_all rfl))
   (ag (ri ya7 rfl rfl yai (vt λ_ _ _ h=>h) (cV ad)))
   aP)
   (ag (aH (dz c8 rfl nb.list fF (ac (kx (LH (LM (by decide:1<=64) _) j) (bw (am 0) rfl) (am 1) (λ_ _=>rfl)) ad))))),?_⟩
  ext;have b:=qD z t;have val:=xy z t;rw[u]at b;refine⟨C,e,_,m,cl,na.2.2.2,_,rfl,i,rfl,?_⟩;refine⟨_,.inl ⟨_,.inr z,.inl d.dict,rfl,rfl⟩,?_⟩;cases c:t.find? (λx=>decide (x.1=z)) with
  |none=>
   rw[c]at b val;rw[val];rw[q07 (by simp)];exact⟨av ⋯,x b⟩
  |some y=>
   rw[c]at b val;rw[val];rw[q06 (by simp)];have r:=d.list y (List.mem_of_find?_eq_some c);exact⟨C,e,_,m,cl,na.2.2.2,_,rfl,i,rfl,_,.inl ⟨_,.inr z,.inl d.dict,rfl,val.symm⟩,_,rfl,_,.inl (aR.of r),λl k=>q _ b l _ k af (ai k)⟩
abbrev eR:Stmt:=iB 46 4
inductive f_(R:RC)(C:Addr)(vs:List V)(H:Hp)(Q:VK)(_E:XK):Prop
 |mk (a dx:Addr) (sg st:LY) (as:L5) (rs:Yaa) (_:vs=[.ref a]) (_:c7 R H C dx a sg st as rs) (_:∀l H',H l=none->H' l=some (.lst ((aV (tx st) rs).map λq=>V.str q.1))->aA H H'->Q (.ref l) H')
theorem qp:aB ["self"] ["self"] (ak eR):=by walk_at "c"
theorem pY{f:Addr}(F:dj K "names" "Grammar.names" eR f fd)(nb:NB mg)(cl:io K C)(na:au K C "signs"/\au K C "start"/\au K C "kept"/\au K C "numbers"):↑aS 1 f fd ["self"] (f_ R C):=by
 have sc:=qp;walk_at "f"
 ·obtain⟨a,j,sg,st,as,rs,rfl,g,q⟩:=h
  obtain⟨lk,c,t,e,hk,hrs,i,d⟩:=id g;have hu:=hr.units;refine⟨_,(ag (aH (dz (xq rfl) rfl nb.list fF (ac (bw (am 0) rfl) ad)))),?_⟩;ext;refine⟨C,j,_,e,cl,na.2.2.2,_,rfl,c,rfl,_,i.dict,λl b=>q l _ b ?_ (ai b)⟩;rw[af,<- d];unfold uL iz;rw[Le,Le]
  rfl
abbrev eZ:Stmt:=iB 46 1
inductive gi(R:RC)(C:Addr)(vs:List V)(H:Hp)(Q:VK)(_E:XK):Prop
 |mk (a dx:Addr) (sg st:LY) (as:L5) (rs:Yaa) (_:vs=[.ref a]) (_:c7 R H C dx a sg st as rs) (_:∀l H',H l=none->H' l=some (.lst (as.map V.ref))->aA H H'->Q (.ref l) H')
theorem qk:aB ["self"] ["self"] (ak eZ):=by walk_at "c"
theorem p8{f:Addr}(F:dj K "rules" "Grammar.rules" eZ f fd)(nb:NB mg)(cl:io K C)(na:au K C "signs"/\au K C "start"/\au K C "kept"/\au K C "numbers"):↑aS 1 f fd ["self"] (gi R C):=by
 have sc:=qk;walk_at "f"
 ·obtain⟨a,j,sg,st,as,rs,rfl,g,q⟩:=h
  obtain⟨c,pn,t,i,e,hrs,hN,hm⟩:=id g;have hu:=hr.units;refine⟨_,(ag (aH (dz c8 rfl nb.list fF (ac (bw (am 0) rfl) ad)))),?_⟩;ext;exact⟨C,j,_,i,cl,na.2.2.1,_,rfl,c,rfl,_,.inl (aR.of e),λd b=>q d _ b af (ai b)⟩
abbrev nQ:Stmt:=fC 19
inductive qO(K:W.Frag)(vs:List V)(H:Hp)(Q:VK)(_E:XK):Prop
 |mk (a:Addr) (p:aJ) (_:vs=[.ref a]) (_:aR K H a (aw p)) (_:eC p) (_:gx H (mirror p) Q)
theorem Am:aB ["picture"] ["picture"] (ak nQ):=by walk_at "c"
theorem zL{f:Addr}(F:dj K "mirror" "mirror" nQ f fd)(nb:NB mg):↑aS 1 f fd ["picture"] (qO K):=by
 have sc:=Am;walk_at "f"
 ·obtain⟨a,p,rfl,j,g,q⟩:=h
  refine⟨_,(ag (aH (cq ["row"] [] rfl (bz.of (by kernel_rfl)) (by kernel_rfl) (aW (am 0))
    (λ_ _ _ _=>(aD (i:=0) (by show(["row"]:List Str).Nodup;decide +kernel) rfl (Or.inl rfl))) (λ_ _ _ _=>cv) (λ_ _ _ _=>(wQ rfl rfl nb.reversed (ac (am 0) ad)))))),?_⟩
  ext;refine⟨⟨_,j⟩,c_ (xs:=aw p) (λi b σ d=>d=H/\b=aw (mirror (p.take i))/\i<=p.length/\∃x,σ=[x]) ⟨rfl,rfl,Lo _,_,rfl⟩ ?_ ?_ ?_ ?_ ?_⟩
  ·rintro i b σ d ⟨_,rfl,_⟩
   refine bj ?_;rw[ax];unfold mirror;rw[K3,LC];have:=g.1;omega
  ·rintro i b σ d ⟨_,_,h,_⟩
   rw[ax];exact h
  ·rintro i b σ d ⟨rfl,_⟩
   exact j
  ·rintro i x b σ d e ⟨rfl,rfl,hi,y,rfl⟩
   have c:i<p.length:=by have:=(K1.mp e).1;rwa [ax]at this
   rw[cw c]at e;cases e;have hr:=g.2 _ (K_ c);ext;refine⟨by rw[aC];omega,nofun,?_,c⟩;rw[dg,i',q0E,K0 c];unfold mirror;rw[Lc];exact(dE _ _).symm
  ·rintro b σ d ⟨rfl,rfl,_⟩ l c
   rw[ax,LB];exact q l _ c af (ai c)
abbrev dk:Stmt:=fC 21
inductive rh(K:W.Frag)(vs:List V)(H:Hp)(Q:VK)(_E:XK):Prop
 |mk (a:Addr) (p:aJ) (i:Nat) (_:vs=[.ref a,.int (i:Int)]) (_:aR K H a (aw p)) (_:eC p) (_:(∀r∈p,i<r.length)) (_:∀H',aA H H'->Q (.str (tx (col p i))) H')
theorem zi:aB ["picture","i"] ["picture","i"] (ak dk):=by walk_at "c"
theorem yV{f:Addr}(F:dj K "column_from_below" "column_from_below" dk f fd)(nb:NB mg):↑aS 1 f fd ["picture","i"] (rh K):=by
 have sc:=zi;walk_at "f"
 ·obtain⟨a,p,i,rfl,v,m,z,q⟩:=h
  refine⟨_,(ag (aH (@xZ _ _ _ _ _ _ _ _ (ac (cq ["row"] [1] rfl (bz.of (by kernel_rfl)) (by kernel_rfl) (Fk rfl nb.reversed (ac (am 0) ad))
    (λ_ _ _ _=>(aD (i:=0) (by show(["row","i"]:List Str).Nodup;decide +kernel) rfl (Or.inl rfl))) (λ_ _ _ _=>cv) (λ_ _ _ _=>(ba oq (am 0) (am 1) (λ_ _=>rfl)))) ad) rfl rfl))),?_⟩
  ext;have hd:∀n,((p.reverse.take n).map λr=>V.str ⟨#[r.getD i 0]⟩)=(((p.reverse.take n).map λr=>r.getD i 0).map λc=>(⟨#[c]⟩:Str)).map V.str:=λn=>by rw[Le,Le];rfl
  refine⟨rfl,_,v,Bo (xs:=aw p) (λn b σ g=>g=H/\b=((p.reverse.take n).map λr=>V.str ⟨#[r.getD i 0]⟩)/\n<=p.length/\∃x,σ=[x,some (.int (i:Int))]) ⟨rfl,rfl,Lo _,_,rfl⟩ ?_ ?_ ?_ ?_ ?_⟩
  ·rintro n b σ g ⟨_,rfl,_⟩
   refine bj ?_;rw[K3,LC];have:=m.1;rw[Lh];omega
  ·rintro n b σ g ⟨_,_,h,_⟩
   rw[ax];exact h
  ·rintro n b σ g ⟨rfl,_⟩
   exact v
  ·rintro n x b σ g o ⟨rfl,rfl,hn,y,rfl⟩
   have d:n<p.reverse.length:=by
    have:=(K1.mp o).1
    rwa [Lh,ax,<- Lh (as:=p)]at this
   have j:(aw p.reverse)[n]?=some x:=by unfold aw at o ⊢;rwa [List.map_reverse]
   rw[cw d]at j;cases j;have u:p.reverse[n]∈p:=List.mem_reverse.mp (K_ d);have hr:=m.2 _ u;have k:=z _ u;ext;have B:(tx p.reverse[n]).cps.toList[i]?=some (p.reverse[n].getD i 0):=by rw[dg,q0A,K0 k];rfl
   refine⟨by rw[aC];exact av ⋯,_,bV B,?_,by rw[Lh]at d;exact d⟩;rw[q0E,K0 d,Lc]
   rfl
  ·rintro b σ g ⟨rfl,rfl,_⟩ l d
   rw[ax,<- Lh (as:=p),LB]at *;refine⟨(col p i).map λc=>(⟨#[c]⟩:Str),.inl (aR.of ?_),?_,?_⟩
   ·rw[af];unfold col;rw[Le,Le];rfl
   ·rw[Le]
    have e:((λy:Str=>y.length)∘λc=>(⟨#[c]⟩:Str))=λ_=>1:=by funext c;rfl
    rw[e,List.map_const',List.sum_replicate_nat,K3];have C:(Str.ofString "").length=0:=rfl;rw[C];have:=m.1;unfold col;rw[K3,Lh];omega
   ·rw[i'];exact q _ (ai d)
abbrev lQ:Stmt:=fC 20
inductive gX(K:W.Frag)(vs:List V)(H:Hp)(Q:VK)(_E:XK):Prop
 |mk (a:Addr) (p:aJ) (r c:Nat) (_:vs=[.ref a]) (_:aR K H a (aw p)) (_:rect p r c) (_:0<r) (_:r<=64) (_:c<=64) (_:gx H (aZ p) Q)
theorem xV:aB ["picture"] ["picture"] (ak lQ):=by walk_at "c"
theorem wd{f:Addr}(F:dj K "quarter" "quarter" lQ f fd)(nb:NB mg)(yaJ:↑dl 1 "column_from_below" ["picture","i"] (rh K)):↑aS 2 f fd ["picture"] (gX K):=by
 have sc:=xV;walk_at "f"
 ·obtain⟨a,p,r,c,rfl,C,g,e,o,u,q⟩:=h
  refine⟨_,(ag (aH (cq ["i"] [0] rfl (bz.of (by kernel_rfl)) (by kernel_rfl) (bM rfl nb.range (ac (aN br rfl nb.len cn (ac (ba bS (am 0) aj (λ_ _=>rfl)) ad)) ad))
    (λ_ _ _ _=>(aD (i:=0) (by show(["i","picture"]:List Str).Nodup;decide +kernel) rfl (Or.inl rfl))) (λ_ _ _ _=>cv) (λ_ _ _ _=>(aI yaJ (hr.mono nofun) rfl aL (ac (am 1) (ac (am 0) ad))))))),?_⟩
  ext;have j:0<p.length:=by rw[g.1];exact e
  have v:(p[0]).length=c:=g.2 _ (K_ j);have G:(p.headD []).length=c:=bp g e;refine⟨_,C,_,bV (cw j),_,rfl,by rw[aC];exact av ⋯,by rw[aC];omega,by rw[aC];omega,?_⟩;rw[aC,v,K'];refine jV (lo:=0) (n:=c) (λi b σ k=>aA H k/\b=aw ((List.range i).map (col p))/\i<=c/\∃x,σ=[x,some (.ref a)]) ⟨aA.refl _,rfl,Lo _,_,rfl⟩ ?_ ?_ ?_ ?_
  ·rintro i b σ k ⟨_,rfl,_⟩
   refine bj ?_;rw[ax,K3,q0J];omega
  ·rintro i b σ k ⟨_,_,h,_⟩
   exact h
  ·rintro i b σ k B ⟨d,rfl,_,y,rfl⟩
   ext;refine⟨a,p,i,by simp,d.seq C,eC.of g o u,λx D=>by rw[g.2 x D];exact B,λH2 m=>⟨d.trans m,?_,B⟩⟩;rw[q0M,Lc];exact(dE _ _).symm
  ·rintro b σ k ⟨d,rfl,_⟩ l z
   refine q l _ (d.free z) ?_ (d.trans (ai z));rw[af];unfold aZ;rw[G]
abbrev nz:Stmt:=fC 18
inductive je(K:W.Frag)(vs:List V)(H:Hp)(Q:VK)(_E:XK):Prop
 |mk (a:Addr) (p:aJ) (r c t:Nat) (_:vs=[.ref a,.int (t:Int)]) (_:aR K H a (aw p)) (_:rect p r c) (_:0<r) (_:0<c) (_:r<=64) (_:c<=64) (_:t<8) (_:gx H (turned p t) Q)
theorem za:aB ["picture","t","result","step"] ["picture","t"] (ak nz):=by walk_at "c"
theorem zH{f:Addr}(F:dj K "turned" "turned" nz f fd)(nb:NB mg)(yaG:↑dl 1 "mirror" ["picture"] (qO K))(ya8:↑dl 2 "quarter" ["picture"] (gX K)):↑aS 3 f fd ["picture","t"] (je K):=by
 have sc:=za;walk_at "f"
 ·obtain⟨a,p,r,c,t,rfl,hS,hp,hr0,hc0,hr1,hc1,ht,q⟩:=h
  refine⟨_,(ae (q01 2 sc.nd (dz c8 rfl nb.list fF (ac (pv 0) ad)))
   (ae (bJ (nn Gv (pv 1) aj (aX _))
   (ag (q01 2 sc.nd (aI yaG (hr.mono nofun) rfl aL (ac (pv 2) ad))))
   aP)
   (ae (bd PassesOwn.never rfl (qW rfl nb.range (ac (aE bG (pv 1) aj) ad)) (q02 3 sc.nd)
   (ag (q01 2 sc.nd (aI ya8 (hr.mono nofun) rfl aL (ac (pv 2) ad)))))
   (ag (aH (pv 2)))))),?_⟩
  ext
  -- the aQ,from the list at l
  have loop:∀(l:Addr) (p':aJ) (H1:Hp),H l=none->H1 l=some (.lst (aw p'))->aA H H1->rect p' r c->turned p t=aQ (t%4) p' ->
    ∀(g:TG) (tb:TS) (D:fW),g=jv 3->tb=BK (mj (gX K) [] E0 (kc (Ak 2) nK)) (jv 2)->(∀σ' H' v,σ'[2]?=some (some v)->Q v H'->D.nx σ' H')->Ci (Ao 0 ((t:Int)%4).toNat) g tb D [some (V.ref a),some (V.int t),some (V.ref l),none] H1:=by
   intro l p' H1 hl h1 sm hp' et g tb D hg htb hD;subst hg htb;have e4:((t:Int)%4).toNat=t%4:=by omega
   rw[e4];refine bN (λi σ H2=>∃(l2:Addr) (x:Option V),σ=[some (V.ref a),some (V.int t),some (V.ref l2),x]/\H l2=none/\H2 l2=some (.lst (aw (aQ i p')))/\aA H H2) ⟨l,none,rfl,hl,h1,sm⟩ ?_ ?_
   ·rintro i σ H2 hi ⟨l2,x,rfl,h2,h3,sm2⟩
    ext;have hq:=dm i hp' hr0 hc0;have gp:∀r' c',rect (aQ i p') r' c'->0<r'->r'<=64->c'<=64->gX K [V.ref l2] H2 (λx_1 H1=>∃l2,x_1=V.ref l2/\H l2=none/\H1 l2=some (HO.lst (aw (aQ (i+1) p')))/\aA H H1) E0:=λr' c' h4 h5 h6 h7=>
     ⟨l2,aQ i p',r',c',rfl,aR.of h3,h4,h5,h6,h7,λl3 H3 h8 h9 sm3=>⟨l3,rfl,sm2.free h8,by rw[h9,<- cJ 1 i p'];rfl,sm2.trans sm3⟩⟩
    by_cases ol:i%2=0
    ·rw[q07 ol,q07 ol]at hq
     exact gp r c hq hr0 hr1 hc1
    ·rw[q06 ol,q06 ol]at hq
     exact gp c r hq hc0 hc1 hr1
   ·rintro σ H2 ⟨l2,x,rfl,h2,h3,sm2⟩
    exact hD _ _ _ rfl (q l2 H2 h2 (by rw[h3,et]) sm2)
  refine⟨_,.inl hS,λl hl=>?_⟩
  split
  ·rename_i h4
   refine⟨l,p,rfl,aR.of af,eC.of hp hr1 hc1,λl2 H2 h2 h3 sm2=>⟨⋯,⋯,?_⟩⟩;refine loop l2 (mirror p) H2 ((ai hl).free h2) h3 ((ai hl).trans sm2) (b9 hp) (by unfold turned;rw[q07 ⋯]) _ _ _ rfl rfl ?_;intro σ' H' v e hq;exact⟨v,e,hq⟩
  ·rename_i h4
   refine⟨⋯,⋯,?_⟩;refine loop l p _ hl af (ai hl) hp (by unfold turned;rw[q06 ⋯]) _ _ _ rfl rfl ?_;intro σ' H' v e hq;exact⟨v,e,hq⟩
def vh(r:Nat×RV):List V:=match r.1 with
 |0=>[.str (tx r.2.n),.int r.2.c,.int 0,.str (tx r.2.sg),.str ""]
 |1=>[.str (tx r.2.n),.int r.2.c,.int 1,.str (tx r.2.o1),.str (tx r.2.o2)]
 |2=>[.str (tx r.2.n),.int r.2.c,.int 2,.str (tx r.2.o1),.str (tx r.2.o2)]
 |_=>[.str (tx r.2.n),.int r.2.c,.int 3,.str (tx r.2.o1),.int r.2.t]
def hV(H:Hp)(l:Addr)(ts:L5)(rs:Yaa):Prop:=H l=some (.lst (ts.map V.ref))/\ts.length=rs.length/\∀(i:Nat) t r,ts[i]?=some t->rs[i]?=some r->H t=some (.tup (vh r))
theorem hV.up(h:hV H l ts rs)(s:aA H H'):hV H' l ts rs:=⟨s _ _ h.1,h.2.1,λi t r e1 e2=>s _ _ (h.2.2 i t r e1 e2)⟩
theorem gS{k:Nat}(h:k<4):k=0\/k=1\/k=2\/k=3:=by omega
structure kJ(r:Nat×RV):Prop where
 k4:r.1<4
 good:r.2.good
 small:r.2.small
abbrev pp:Stmt:=fC 71
inductive lY(R:RC)(vs:List V)(H:Hp)(Q:VK)(_E:XK):Prop
 |mk (t:Addr) (r:Nat×RV) (_:vs=[.ref t]) (_:H t=some (.tup (vh r))) (_:kJ r) (_:∀b H',gb R H' r.1 b r.2->aA H H'->Q (.ref b) H')
theorem zu:aB ["_law_rule_here"] ["_law_rule_here"] (ak pp):=by walk_at "c"
theorem zw{f:Addr}(F:dj K "_law_rule" "_law_rule" pp f fd)(nb:NB mg)(rk:lW K R)
  (zib:↑k9 4 "CellRule" R.cc ["self","name","cost","sign"] (gK K)) (zOa:↑k9 4 "BesideRule" R.cb ["self","name","cost","one","other"] (di K))
  (zTa:↑k9 4 "AboveRule" R.ca ["self","name","cost","one","other"] (di K)) (zjb:↑k9 4 "TurnRule" R.ct ["self","name","cost","part","turning"] (gZ K)):↑aS 6 f fd ["_law_rule_here"] (lY R):=by
 have sc:=zu;walk_at "f"
 ·obtain⟨t,⟨k,v⟩,rfl,B,⟨C,g,r⟩,good⟩:=h
  refine⟨_,(ae (bJ (aU d0 (ba bi (am 0) aj (λ_ _=>rfl)) aj (aX _))
   (ag (aH (i8 zib (hr.mono nofun) rfl aL (ac (ba bi (am 0) aj (λ_ _=>rfl)) (ac (ba bi (am 0) aj (λ_ _=>rfl)) (ac (ba bi (am 0) aj (λ_ _=>rfl)) ad))))))
   aP)
   (ae (bJ (aU d0 (ba bi (am 0) aj (λ_ _=>rfl)) aj (aX _))
   (ag (aH (i8 zOa (hr.mono nofun) rfl aL (ac (ba bi (am 0) aj (λ_ _=>rfl)) (ac (ba bi (am 0) aj (λ_ _=>rfl)) (ac (ba bi (am 0) aj (λ_ _=>rfl)) (ac (ba bi (am 0) aj (λ_ _=>rfl)) ad)))))))
   aP)
   (ae (bJ (aU d0 (ba bi (am 0) aj (λ_ _=>rfl)) aj (aX _))
   (ag (aH (i8 zTa (hr.mono nofun) rfl aL (ac (ba bi (am 0) aj (λ_ _=>rfl)) (ac (ba bi (am 0) aj (λ_ _=>rfl)) (ac (ba bi (am 0) aj (λ_ _=>rfl)) (ac (ba bi (am 0) aj (λ_ _=>rfl)) ad)))))))
   aP)
   (ag (aH (i8 zjb (hr.mono nofun) rfl aL (ac (ba bi (am 0) aj (λ_ _=>rfl)) (ac (ba bi (am 0) aj (λ_ _=>rfl)) (ac (ba bi (am 0) aj (λ_ _=>rfl)) (ac (ba bi (am 0) aj (λ_ _=>rfl)) ad)))))))))),?_⟩
  have a:=gG.of (K:=K) B;have g:v.good:=g;have r:v.small:=g.small;have u:v.n.length<=100000:=by have:=r.n;omega
  have y:v.o1.length<=100000:=by have:=r.o1;omega
  have z:v.o2.length<=100000:=by have:=r.o2;omega
  have bs:v.sg.length<=100000:=by have:=r.sg;omega
  ext;rcases gS C with rfl | rfl | rfl | rfl
  ·change gG K H t [.str (tx v.n),.int v.c,.int 0,.str (tx v.sg),.str ""]at a
   refine⟨_,a,_,rfl,rfl,?_⟩;rw[q07 rfl];refine⟨_,a,_,rfl,_,a,_,rfl,_,a,_,rfl,λx d j o m=>?_⟩;exact⟨x,R.cc,d,v.n,v.sg,v.c,rfl,af,rk.i0.cl,rk.a0,u,bs,g.ok 0,λi q e l b p=>⟨rfl,good x q ⟨d,i,p,b⟩ (i7 j o e)⟩⟩
  ·change gG K H t [.str (tx v.n),.int v.c,.int 1,.str (tx v.o1),.str (tx v.o2)]at a
   refine⟨_,a,_,rfl,rfl,?_⟩;rw[q06 nofun];refine⟨_,a,_,rfl,rfl,?_⟩;rw[q07 rfl];refine⟨_,a,_,rfl,_,a,_,rfl,_,a,_,rfl,_,a,_,rfl,λx d j o m=>?_⟩;exact⟨x,R.cb,d,v.n,v.o1,v.o2,v.c,rfl,af,rk.i1.cl,rk.a1,u,y,z,g.ok 1,λi q e l b p=>⟨rfl,good x q ⟨d,i,p,b⟩ (i7 j o e)⟩⟩
  ·change gG K H t [.str (tx v.n),.int v.c,.int 2,.str (tx v.o1),.str (tx v.o2)]at a
   refine⟨_,a,_,rfl,rfl,?_⟩;rw[q06 nofun];refine⟨_,a,_,rfl,rfl,?_⟩;rw[q06 nofun];refine⟨_,a,_,rfl,rfl,?_⟩;rw[q07 rfl];refine⟨_,a,_,rfl,_,a,_,rfl,_,a,_,rfl,_,a,_,rfl,λx d j o m=>?_⟩;exact⟨x,R.ca,d,v.n,v.o1,v.o2,v.c,rfl,af,rk.i2.cl,rk.a2,u,y,z,g.ok 2,λi q e l b p=>⟨rfl,good x q ⟨d,i,p,b⟩ (i7 j o e)⟩⟩
  ·change gG K H t [.str (tx v.n),.int v.c,.int 3,.str (tx v.o1),.int v.t]at a
   refine⟨_,a,_,rfl,rfl,?_⟩;rw[q06 nofun];refine⟨_,a,_,rfl,rfl,?_⟩;rw[q06 nofun];refine⟨_,a,_,rfl,rfl,?_⟩;rw[q06 nofun];refine⟨_,a,_,rfl,_,a,_,rfl,_,a,_,rfl,_,a,_,rfl,λx d j o m=>?_⟩;exact⟨x,R.ct,d,v.n,v.o1,v.c,v.t,rfl,af,rk.i3.cl,rk.a3,u,y,g.ok 3,λi q e l b p=>⟨rfl,good x q ⟨d,i,p,b⟩ (i7 j o e)⟩⟩
structure u6(p:aJ)(sg:LY)(r:Nat×RV):Prop where
 good:kJ r
 n:r.2.n∈p
 o1:r.2.o1∈p
 o2:r.2.o2∈p
 sg:∃c∈sg,r.2.sg=[c]
theorem hV.app{t:Addr}(h:hV H l ts rs)(ht:H t=some (.tup (vh r))):hV (aG H l (.lst (ts.map V.ref++[V.ref t]))) l (ts++[t]) (rs++[r]):=by
 obtain⟨h1,h2,k⟩:=h;refine⟨by rw[af,Lc];rfl,by rw[Lm,Lm,h2];rfl,λi c d b g=>?_⟩;have a:∀c d,H c=some (.tup (vh d))->aG H l (.lst (ts.map V.ref++[V.ref t])) c=some (.tup (vh d)):=λc d e=>by
  rw[aq (λz=>by rw[z,h1]at e;cases e)];exact e
 by_cases j:i<ts.length
 ·rw[Ll j]at b
  rw[Ll ⋯]at g;exact a _ _ (k i c d b g)
 ·rw[Lk ⋯]at b
  rw[Lk ⋯]at g;have ol:i=ts.length:=by
   have:=(K1.mp b).1;simp at this;omega
  subst ol;rw[Nat.sub_self]at b;rw[h2,Nat.sub_self]at g;cases b;cases g
  exact a _ _ ht
theorem uJ(h:dB r=true):ij r ot=true:=by
 unfold dB at h;simp only[q0O,q0b]at h;exact h.1.2
theorem yB{c:Nat}(h:dB r=true)(hc:c∈r):mE [c]=true:=by
 have:=uJ h;unfold ij at this;rw[LL]at this;unfold mE ij;rw[List.all_cons,this c hc]
 rfl
def addNew(ks:L9)(z:Str):List Str:=if z∈ks then ks else ks++[z]
theorem rG(m:List (Str×List Nat))(z:Str):(bX m z).map (·.1)=addNew (m.map (·.1)) z:=by
 unfold bX addNew
 split
 ·rfl
 ·rw[Lc];rfl
theorem pB:∀(zs:L9) (m:List (Str×List Nat)),(zs.foldl bX m).map (·.1)=zs.foldl addNew (m.map (·.1))
 | [],_=>rfl
 |z::zs,m=>by rw[List.foldl_cons,List.foldl_cons,pB zs,rG]
theorem zQ(m:List (Str×List Nat))(i:Nat)(r:Nat×RV):(dY m i r).map (·.1)=(tx r.2.n::(cg r.1 r.2).map tx).foldl addNew (m.map (·.1)):=by
 unfold dY;rw[pB,gP,rG,List.foldl_cons]
theorem Em(a b:Str):wY (V.str a) (V.str b)=(a==b):=rfl
theorem vV(z:Str):∀ks:List Str,Gw (V.str z) (ks.map V.str)=decide (z∈ks)
 | []=>rfl
 |k::ks=>by
  have ih:=vV z ks;unfold Gw at ih ⊢;rw[Lu,List.any_cons,ih,Em]
  by_cases h:z=k
  ·subst h
   rw[beq_self_eq_true,q09 q0B];rfl
  ·have h1:(k==z)=false:=beq_eq_false_iff_ne.mpr λe=>h e.symm
   rw[h1,Bool.false_or]
   by_cases hm:z∈ks
   ·rw[q09 hm,q09 (Lg _ hm)]
   ·rw[q08 hm,q08 (λq=>(Lf.mp q).elim h hm)]
theorem zS(ks:L9):(ks.map V.str).all iH=true:=by
 rw[List.all_map,LL];intro x _;rfl
def jw(z:Str)(rs:Yaa):List Nat:=rs.zipIdx.filterMap λx=>if tx x.1.2.n=z then some x.2 else none
theorem w9(z:Str)(rs:Yaa)(r:Nat×RV):jw z (rs++[r])=jw z rs++if tx r.2.n=z then[rs.length] else[]:=by
 unfold jw;rw[List.zipIdx_append,List.filterMap_append]
 congr 1
 simp
 split<;>rename_i h<;>simp[h]
theorem xH{z:Str}:∀{rs:Yaa},(∀r∈rs,tx r.2.n≠z)->jw z rs=[]:=by
 intro rs h;unfold jw;rw[List.filterMap_eq_nil_iff];intro x a;rw[q06 (h x.1 (List.fst_mem_of_mem_zipIdx a))]
structure NI(rs:Yaa)(m:List (Str×List Nat)):Prop where
 nd:(m.map (·.1)).Nodup
 ix:∀q∈m,q.2=jw q.1 rs
 all:∀r∈rs,tx r.2.n∈m.map (·.1)
theorem nB{y:Str}:y∈(bX m z).map (·.1)↔y∈m.map (·.1)\/y=z:=by
 unfold bX
 split
 ·rename_i h
  exact⟨λq=>.inl q,λq=>q.elim id λe=>e▸h⟩
 ·rw[Lc,Ld];simp
theorem NI.name(h:NI rs m)(z:Str):NI rs (bX m z):=by
 refine⟨ku h.nd,λq hq=>?_,λr hr=>nB.mpr (.inl (h.all r hr))⟩;unfold bX at hq
 split at hq
 ·exact h.ix q hq
 ·rename_i hz
  rcases Ld.mp hq with q1 | q1
  ·exact h.ix q q1
  ·rw[K4.mp q1]
   exact(xH (z:=z) λr hr e=>hz (by rw[<- e];exact h.all r hr)).symm
theorem NI.names:∀(zs:L9) {m:List (Str×List Nat)},NI rs m->NI rs (zs.foldl bX m)
 | [],_,h=>h
 |z::zs,m,h=>NI.names zs (h.name z)
theorem NI.put{r:Nat×RV}(h:NI rs m)(hn:tx r.2.n∈m.map (·.1)):NI (rs++[r]) (ic m (tx r.2.n) rs.length):=by
 refine⟨by rw[gP];exact h.nd,λq b=>?_,λd a=>?_⟩
 ·unfold ic at b
  obtain⟨p,c,rfl⟩:=LK.mp b;rw[w9]
  by_cases e:p.1=tx r.2.n
  ·rw[q07 e]
   show p.2++[rs.length]=jw p.1 rs++_;rw[q07 e.symm,h.ix p c]
  ·rw[q06 e,q06 (λz=>e z.symm),Ly]
   exact h.ix p c
 ·rw[gP]
  rcases Ld.mp a with q | q
  ·exact h.all d q
  ·rw[K4.mp q];exact hn
theorem i9(z:Str):∀(n:Nat) (rs:Yaa),rs.length=n->NI rs (aV z rs)
 |0,rs,h=>by
  rw[LJ.mp h];exact⟨by simp[aV,ft],λq hq=>by rw[show q=(z,[]) by simpa[aV,ft]using hq];rfl,λr hr=>nomatch hr⟩
 |n+1,rs,h=>by
  obtain⟨rs',r,rfl⟩:∃rs' r,rs=rs'++[r]:=⟨rs.dropLast,rs.getLast (by intro e;rw[e]at h;cases h),(List.dropLast_concat_getLast _).symm⟩;have hl:rs'.length=n:=by rw[Lm,q0Z]at h;omega
  have a:=i9 z n rs' hl;unfold aV at a ⊢;rw[fQ,Nat.zero_add];unfold dY;exact((a.name (tx r.2.n)).put (nB.mpr (.inr rfl))).names _
theorem rD:∀{m:List (Str×List Nat)} {q:Str×List Nat},(m.map (·.1)).Nodup->q∈m->m.lookup q.1=some q.2
 |p::m,q,hnd,hq=>by
  rw[Lu,q0c]at hnd;rw[List.lookup_cons];rcases Lf.mp hq with e | e
  ·rw[e];simp
  ·have hne:q.1≠p.1:=λz=>hnd.1 (z▸List.mem_map_of_mem e)
   have:(q.1==p.1)=false:=beq_eq_false_iff_ne.mpr hne;rw[this];exact rD hnd.2 e
theorem Eb{q:Str×List Nat}(h:q∈aV z rs):(aV z rs).lookup q.1=some (jw q.1 rs)/\q.2=jw q.1 rs:=by
 have N:=i9 z _ rs rfl;have e:=N.ix q h;exact⟨by rw[rD N.nd h,e],e⟩
theorem xN{Q:List V->Hp->Prop}(hR:hV H l ts rs)(hg:∀r∈rs,kJ r)(hn:rs.length<=100)(q:∀(as:L5) H',aA H H'->bI R H' as rs->Q (as.map V.ref) H') :
  gl (zT K l) (jv 0) yw (mj (lY R) [] E0 (kc (Ak 0) nK)) [none] H Q:=by
 obtain⟨D,v,w⟩:=hR;refine c_ (xs:=ts.map V.ref) (λi c σ H'=>aA H H'/\(∃as:List Addr,c=as.map V.ref/\bI R H' as (rs.take i))/\i<=ts.length/\∃x,σ=[x]) ⟨aA.refl _,⟨[],rfl,rfl,λi a r e=>by simp at e⟩,Lo _,_,rfl⟩ ?_ ?_ ?_ ?_ ?_
 ·rintro i c σ H' ⟨_,⟨as,rfl,h,_⟩,G,_⟩
  rw[K3,h,LC];exact bj ⋯
 ·rintro i c σ H' ⟨_,_,h,_⟩
  rw[K3];exact h
 ·rintro i c σ H' ⟨k,_⟩
  exact aR.of (k _ _ D)
 ·rintro i x c σ H' u ⟨k,⟨as,rfl,d⟩,G,y,rfl⟩
  have g:i<ts.length:=by have:=(K1.mp u).1;rwa [K3]at this
  rw[K5,K0 g]at u;cases u;have o:i<rs.length:=by omega
  have n:rs[i]?=some rs[i]:=K0 o;have C:=k _ _ (w i ts[i] rs[i] (K0 g) n);ext;refine⟨ts[i],rs[i],rfl,C,hg _ (K_ o),λb H2 I z=>⟨k.trans z,⟨as++[b],by rw[Lc];rfl,?_⟩,g⟩⟩;have hal:as.length=i:=by have:=d.1;rw[LC]at this;omega
  rw[q0E,n];refine⟨by rw[Lm,Lm,d.1];rfl,λj a r m p=>?_⟩
  by_cases B:j<as.length
  ·rw[Ll B]at m
   rw[Ll (by rw[<- d.1];exact B)]at p;exact(d.2 j a r m p).up z
  ·rw[Lk ⋯]at m
   rw[Lk (by rw[<- d.1];omega)]at p;have:j-as.length=0:=by
    have:=(K1.mp m).1;simp at this;omega
   rw[this]at m;rw[<- d.1,this]at p;cases m;cases p
   exact I
 ·rintro c σ H' ⟨k,⟨as,rfl,d⟩,_⟩
  rw[K3,v,LB]at d;exact q as H' k d
def F5(rs:Yaa):List ThM.NR:=rs.map λr=>(tx r.2.n,(cg r.1 r.2).map tx)
theorem wb{ks:L9}{y:Str}:y∈addNew ks z↔y∈ks\/y=z:=ThM.mem_addNew
theorem kt{y:Str}:∀(zs ks:L9),y∈zs.foldl addNew ks↔y∈ks\/y∈zs
 | [],ks=>by simp
 |z::zs,ks=>by
  rw[List.foldl_cons,kt zs,wb,Lf];exact⟨λh=>h.elim (λh=>h.elim .inl λe=>.inr (.inl e)) λh=>.inr (.inr h),λh=>h.elim (λh=>.inl (.inl h)) λh=>h.elim (λe=>.inl (.inr e)) .inr⟩
theorem Au(z:Str)(rs:Yaa)(r:Nat×RV):(aV z (rs++[r])).map (·.1)=(tx r.2.n::(cg r.1 r.2).map tx).foldl addNew ((aV z rs).map (·.1)):=by
 unfold aV;rw[fQ,zQ]
theorem Cy{α:Type}{P:List α->Prop}(h0:P [])(h1:∀rs r,P rs->P (rs++[r]))(rs:List α):P rs:=by
 have:∀(n:Nat) (rs:List α),rs.length=n->P rs:=by
  intro n
  induction n with
  |zero=>intro rs h;rw[LJ.mp h];exact h0
  |succ n ih=>
   intro rs h;have a:rs≠[]:=by intro e;rw[e]at h;cases h
   rw[<- List.dropLast_concat_getLast a];exact h1 _ _ (ih _ (by rw[List.length_dropLast];omega))
 exact this _ rs rfl
theorem kT(z:Str)(rs:Yaa):∀y,y∈(aV z rs).map (·.1)↔y=z\/∃r∈F5 rs,y=r.1\/y∈r.2:=by
 refine Cy (P:=λrs=>∀y,y∈(aV z rs).map (·.1)↔y=z\/∃r∈F5 rs,y=r.1\/y∈r.2) ?_ ?_ rs
 ·intro y
  have e:(aV z []).map (·.1)=[z]:=rfl;rw[e];unfold F5;simp
 ·intro rs r a y
  rw[Au,kt,a y,Lf];unfold F5;rw[Lc]
  constructor
  ·rintro((h | ⟨q,hq,h⟩) | h)
   ·exact .inl h
   ·exact .inr ⟨q,Ld.mpr (.inl hq),h⟩
   ·exact .inr ⟨_,Ld.mpr (.inr (K4.mpr rfl)),h⟩
  ·rintro(h | ⟨q,hq,h⟩)
   ·exact .inl (.inl h)
   ·rcases Ld.mp hq with hq | hq
    ·exact .inl (.inr ⟨q,hq,h⟩)
    ·rw[K4.mp hq]at h
     exact .inr h
theorem DB{sg:LY}{c:Nat}(h:c∈sg):GT (tx sg) (tx [c])=true:=by
 have:=StrLaws.found_one (tx sg) c;show(!(Builtin.Str.occurrences (tx sg) ⟨#[c]⟩ 0 (tx sg).length 1).isEmpty)=true;rw[this,dg,q09 h]
theorem kg{sg:LY}:∀{rs:Yaa} {j:Nat},(∀r∈rs,∃c∈sg,r.2.sg=[c])->fH (tx sg) rs j=none
 | [],_,_=>rfl
 |r::rs,j,h=>by
  obtain⟨c,hc,e⟩:=h r q0B;unfold fH;rw[q06 (λz=>by rw[e,DB hc]at z;exact q0Q z.2 nofun)];exact kg λr' hr'=>h r' (Lg _ hr')
theorem Av{p:aJ}{st:LY}{rs:Yaa}(hsg:dB sg=true)(hst:st∈p)(hpn:∀r∈p,dH r=true)(hp:p.length<=8)(hn:rs.length<=24)(hr:∀r∈rs,u6 p sg r):nO sg st rs=none:=by
 have i:g6 sg st rs=none:=by
  unfold g6;rw[q06 (by rw[hsg];decide),q06 (by rw[hpn _ hst];decide),q06 ⋯,kg λr h=>(hr r h).sg]
 unfold nO;rw[i];simp only[];rw[q06];have g:∀z∈(aV (tx st) rs).map (·.1),z∈p.map tx:=λz d=>by
  rcases(kT _ _ _).mp d with e | ⟨q,c,e⟩
  ·rw[e];exact List.mem_map_of_mem hst
  ·unfold F5 at c
   obtain⟨r,b,rfl⟩:=LK.mp c;have R:=hr r b;rcases e with e | e
   ·rw[e];exact List.mem_map_of_mem R.n
   ·obtain⟨y,a,rfl⟩:=LK.mp e
    refine List.mem_map_of_mem ?_;obtain⟨k,v⟩:=r;rcases gS R.good.k4 with rfl | rfl | rfl | rfl
    ·exact q0Q a List.not_mem_nil
    ·rcases(show y=v.o1\/y=v.o2 by simpa[cg]using a) with rfl | rfl
     ·exact R.o1
     ·exact R.o2
    ·rcases(show y=v.o1\/y=v.o2 by simpa[cg]using a) with rfl | rfl
     ·exact R.o1
     ·exact R.o2
    ·rw[show y=v.o1 by simpa[cg]using a];exact R.o1
 have:=ThM.nd_len (i9 (tx st) _ rs rfl).nd g;rw[K3,K3]at this;omega
theorem bI.zip(h:bI R H as rs):(as.zip rs).map (λx=>V.ref x.1)=as.map V.ref/\(as.zip rs).map (·.2)=rs/\∀x∈as.zip rs,gb R H x.2.1 x.1 x.2.2:=by
 refine⟨?_,List.map_snd_zip (by have:=h.1;omega),λx b=>?_⟩
 ·have e:(as.zip rs).map (λx=>V.ref x.1)=((as.zip rs).map Prod.fst).map V.ref:=by rw[Le];rfl
  rw[e,List.map_fst_zip (by have:=h.1;omega)]
 ·obtain⟨i,c,e⟩:=List.mem_iff_getElem.mp b
  have a:(as.zip rs)[i]?=some x:=by rw[K0 c,e]
  rw[List.getElem?_zip_eq_some]at a;exact h.2 i x.1 x.2 a.1 a.2
structure Ik(K:W.Frag)(C:Addr):Prop where
 cl:jk K C
 na:au K C "signs"/\au K C "start"/\au K C "kept"/\au K C "numbers"
abbrev sf:Stmt:=fC 10
theorem Fj(x:Str):x=tx x.cps.toList:=by unfold tx;simp
theorem Do(p:aJ):Txt.join (Str.ofString "/") (p.map tx)=tx (SpM.glue 47 p):=by
 have e:(Txt.join (Str.ofString "/") (p.map tx)).cps.toList=SpM.glue 47 p:=by
  have h:=SpM.join_glue 47 (p.map tx);rw[Le]at h;have a:((λy:Str=>y.cps.toList)∘tx)=id:=by funext r;exact dg r
  rw[a,List.map_id]at h;exact h
 rw[<- e];exact Fj _
inductive dJ(K:W.Frag)(vs:List V)(H:Hp)(Q:VK)(_E:XK):Prop
 |mk (a:Addr) (p:aJ) (_:vs=[.ref a]) (_:H a=some (.lst (aw p))) (_:eC p) (_:Q (.str (tx (SpM.glue 47 p))) H)
theorem Bu:aB ["picture"] ["picture"] (ak sf):=by walk_at "c"
theorem qZ:∀{p:aJ} {n:Nat},(∀r∈p,r.length<=n)->((p.map tx).map λy:Str=>y.length).sum<=p.length*n
 | [],n,_=>by simp
 |r::p,n,h=>by
  have h1:=h r (by simp);have h2:=qZ (p:=p) (n:=n) λx hx=>h x (by simp[hx]);simp only[Lu,List.sum_cons,aC,Lb];rw[Nat.succ_mul];omega
theorem Bw{f:Addr}(F:dj K "shown" "shown" sf f fd):↑aS 1 f fd ["picture"] (dJ K):=by
 have sc:=Bu;walk_at "f"
 ·obtain⟨a,p,rfl,c,b,q⟩:=h
  refine⟨_,(ag (aH (@xZ _ _ _ _ _ _ _ _ (ac (am 0) ad) rfl rfl))),?_⟩;ext;refine⟨rfl,p.map tx,.inl (by rw[<- jS];exact aR.of c),?_,?_⟩
  ·have:=qZ b.2
   have h1:=b.1;have d:(Str.ofString "/").length=1:=rfl;rw[K3,d];have h2:p.length*64<=64*64:=Nat.mul_le_mul_right _ h1;omega
  ·rw[Do];exact q
abbrev nv:Stmt:=fC 15
def qP(sb:Bool)(p:aJ)(n:Nat):aJ:=if sb=true then p.map (List.take n) else p.take n
def lL(sb:Bool)(p:aJ)(n:Nat):aJ:=if sb=true then p.map (List.drop n) else p.drop n
inductive rL(K:W.Frag)(vs:List V)(H:Hp)(Q:VK)(_E:XK):Prop
 |mk (sb:Bool) (a:Addr) (p:aJ) (r c n:Nat) (_:vs=[.ref a,.bl sb,.int (n:Int)]) (_:aR K H a (aw p)) (_:rect p r c) (_:r<=6) (_:c<=6) (_:n<=(if sb=true then c else r)) (_:∀(t l1 l2:Addr) (H':Hp),H t=none->H l1=none->H l2=none->l1≠l2->H' t=some (.tup [.ref l1,.ref l2])->H' l1=some (.lst (aw (qP sb p n)))->H' l2=some (.lst (aw (lL sb p n)))->aA H H'->Q (.ref t) H')
theorem Aw:aB ["picture","side_by_side","at"] ["picture","side_by_side","at"] (ak nv):=by walk_at "c"
theorem A8{row:LY}{n:Nat}(h:n<=row.length):Txt.slice (tx row) none (some (n:Int))=tx (row.take n):=by
 rw[gE,HT.sIx_nat,LS h];show tx ((row.drop 0).take (n-0))=_;rw[LU,Nat.sub_zero]
theorem wV{row:LY}{n:Nat}(h:n<=row.length):Txt.slice (tx row) (some (n:Int)) none=tx (row.drop n):=by
 rw[gE,HT.sIx_nat,LS h];show tx ((row.drop n).take (row.length-n))=_;rw[q0F (by rw[LD];omega)]
theorem FN{p:aJ}{n:Nat}(h:n<=p.length):pW (aw p) none (some (n:Int))=aw (p.take n):=by
 unfold pW;rw[HT.sIx_nat,ax,LS h];show((aw p).drop 0).take (n-0)=_;rw[LU,Nat.sub_zero];unfold aw;rw[List.map_take]
theorem A9{p:aJ}{n:Nat}(h:n<=p.length):pW (aw p) (some (n:Int)) none=aw (p.drop n):=by
 unfold pW;rw[HT.sIx_nat,ax,LS h];show((aw p).drop n).take (p.length-n)=_;rw[q0F (by rw[LD,ax];omega)];unfold aw;rw[List.map_drop]
theorem Ab{f:Addr}(F:dj K "parted" "parted" nv f fd)(nb:NB mg):↑aS 1 f fd ["picture","side_by_side","at"] (rL K):=by
 have sc:=Aw;walk_at "f"
 ·obtain⟨L,a,p,r,c,n,rfl,C,B,hr1,hc1,G,q⟩:=h
  refine⟨_,(ae (bJ (fU (am 1) λ_=>rfl)
   (ag (aH (b6 (ac (cq ["row"] [2] rfl (bz.of (by kernel_rfl)) (by kernel_rfl) (aW (am 0))
    (λ_ _ _ _=>(aD (i:=0) (by show(["row","at"]:List Str).Nodup;decide +kernel) rfl (Or.inl rfl))) (λ_ _ _ _=>cv) (λ_ _ _ _=>(d8 oh (am 0) iY (dq (am 1))))) (ac (cq ["row"] [2] rfl (bz.of (by kernel_rfl)) (by kernel_rfl) (aW (am 0))
    (λ_ _ _ _=>(aD (i:=0) (by show(["row","at"]:List Str).Nodup;decide +kernel) rfl (Or.inl rfl))) (λ_ _ _ _=>cv) (λ_ _ _ _=>(d8 oh (am 0) (dq (am 1)) iY))) ad)))))
   aP)
   (ag (aH (b6 (ac (d8 uq (am 0) iY (dq (am 2))) (ac (d8 uq (am 0) (dq (am 2)) iY) ad)))))),?_⟩
  ext;cases L with
  |true=>
   rw[q07 rfl]at G ⊢;refine⟨⟨_,C⟩,c_ (xs:=aw p) (λi b σ m=>m=H/\b=aw ((p.take i).map (List.take n))/\i<=p.length/\∃y,σ=[y,some (V.int (n:Int))]) ⟨rfl,rfl,Lo _,_,rfl⟩ ?_ ?_ ?_ ?_ ?_⟩
   ·rintro i b σ m ⟨_,rfl,J,_⟩
    rw[ax,K3,LC];exact bj (by rw[B.1]at *;omega)
   ·rintro i b σ m ⟨_,_,h,_⟩
    rw[ax];exact h
   ·rintro i b σ m ⟨rfl,_⟩
    exact C
   ·rintro i v b σ m z ⟨rfl,rfl,J,y,rfl⟩
    have u:i<p.length:=by have:=(K1.mp z).1;rwa [ax]at this
    rw[cw u]at z;cases z;have D:=B.2 _ (K_ u);ext;refine⟨by rw[aC];exact av ⋯,?_,u⟩;rw[A8 ⋯,q0E,K0 u,Lc];exact(dE _ _).symm
   ·rintro b σ m ⟨rfl,rfl,_⟩ g k
    rw[ax,LB];have j:aA m (aG m g (HO.lst (aw (p.map (List.take n))))):=ai k;have h1:aG m g (HO.lst (aw (p.map (List.take n)))) g=some (HO.lst (aw (p.map (List.take n)))):=af;generalize aG m g (HO.lst (aw (p.map (List.take n))))=H1 at j h1 ⊢;refine⟨⟨_,j.seq C⟩,c_ (xs:=aw p) (λi b σ H2=>H2=H1/\b=aw ((p.take i).map (List.drop n))/\i<=p.length/\∃y,σ=[y,some (V.int (n:Int))]) ⟨rfl,rfl,Lo _,_,rfl⟩ ?_ ?_ ?_ ?_ ?_⟩
    ·rintro i b σ H2 ⟨_,rfl,J,_⟩
     rw[ax,K3,LC];exact bj (by rw[B.1]at *;omega)
    ·rintro i b σ H2 ⟨_,_,h,_⟩
     rw[ax];exact h
    ·rintro i b σ H2 ⟨rfl,_⟩
     exact j.seq C
    ·rintro i v b σ H2 z ⟨rfl,rfl,J,y,rfl⟩
     have u:i<p.length:=by have:=(K1.mp z).1;rwa [ax]at this
     rw[cw u]at z;cases z;have D:=B.2 _ (K_ u);ext;refine⟨by rw[aC];exact av ⋯,?_,u⟩;rw[wV ⋯,q0E,K0 u,Lc];exact(dE _ _).symm
    ·rintro b σ H2 ⟨rfl,rfl,_⟩ x e
     rw[ax,LB];refine⟨av ⋯,λt l=>?_⟩;have I:g≠x:=az h1 e;have d:∀o,aA H2 (aG H2 x o):=λo=>ai e;refine q t g x _ ?_ k (j.free e) I af ?_ ?_ ((j.trans (d _)).trans (ai l))
     ·exact j.free ((d _).free l)
     ·exact(ai l) _ _ ((d _) _ _ h1)
     ·exact(ai l) _ _ af
  |false=>
   rw[q06 nofun]at G ⊢;refine⟨_,C,λg k=>?_⟩;rw[FN (by rw[B.1];exact G)];have j:aA H (aG H g (HO.lst (aw (p.take n)))):=ai k;have h1:aG H g (HO.lst (aw (p.take n))) g=some (HO.lst (aw (p.take n))):=af;generalize aG H g (HO.lst (aw (p.take n)))=H1 at j h1 ⊢;refine⟨_,j.seq C,λx e=>⟨av ⋯,λt l=>?_⟩⟩;rw[A9 (by rw[B.1];exact G)]at l ⊢;have I:g≠x:=az h1 e;have d:∀o,aA H1 (aG H1 x o):=λo=>ai e;refine q t g x _ ?_ k (j.free e) I af ?_ ?_ ((j.trans (d _)).trans (ai l))
   ·exact j.free ((d _).free l)
   ·exact(ai l) _ _ ((d _) _ _ h1)
   ·exact(ai l) _ _ af
abbrev wu:Stmt:=fC 23
inductive yC(vs:List V)(H:Hp)(Q:VK)(_E:XK):Prop
 |mk (t:Nat) (_:vs=[.int (t:Int)]) (_:t<8) (_:Q (.int (dM t:Nat)) H)
theorem DH:aB ["t"] ["t"] (ak wu):=by walk_at "c"
theorem Ek{f:Addr}(F:dj K "back" "back" wu f fd):↑aS 1 f fd ["t"] yC:=by
 have sc:=DH;walk_at "f"
 ·obtain⟨t,rfl,ht,q⟩:=h
  refine⟨_,(ae (bJ (aU (bD.m0 uW) (am 0) aj (aX _))
   (ag (aH (aE (bD.m1 bG) (aE (bD.m0 tj) aj (am 0)) aj)))
   aP)
   (ag (aH (am 0)))),?_⟩
  ext
  split
  ·have e:((dM t:Nat):Int)=(4-(t:Int))%4:=by unfold dM;rw[q07 ⋯];omega
   rw[<- e];exact q
  ·have e:((dM t:Nat):Int)=(t:Int):=by unfold dM;rw[q06 ⋯]
   rw[<- e];exact q
abbrev gY:Stmt:=fC 11
def bO(H:Hp):List Addr->List Wn->Prop
 | [],[]=>True
 |b::bs,x::xs=>H b=some (.tup (x.map V.int))/\bO H bs xs
 |_,_=>False
theorem bO.same(sm:aA H H'):∀{bs:L5} {xs:List Wn},bO H bs xs->bO H' bs xs
 | [],[],_=>trivial
 |_::_,_::_,h=>⟨sm _ _ h.1,bO.same sm h.2⟩
 | [],_::_,h=>h.elim
 |_::_,[],h=>h.elim
theorem bO.snoc{H:Hp}{x:Wn}(hb:H b=some (.tup (x.map V.int))):∀{bs:L5} {xs:List Wn},bO H bs xs->bO H (bs++[b]) (xs++[x])
 | [],[],_=>⟨hb,trivial⟩
 |_::_,_::_,h=>⟨h.1,bO.snoc hb h.2⟩
 | [],_::_,h=>h.elim
 |_::_,[],h=>h.elim
theorem bO.get:∀{bs:L5} {xs:List Wn} {i:Nat} {b:Addr},bO H bs xs->bs[i]?=some b->∃x,xs[i]?=some x/\H b=some (.tup (x.map V.int))
 | [],_,_,_,_,e=>by simp at e
 |c::bs,x::xs,0,b,h,e=>by simp at e;subst e;exact⟨x,rfl,h.1⟩
 |c::bs,x::xs,i+1,b,h,e=>by
  obtain⟨y,h1,h2⟩:=bO.get (i:=i) h.2 (by simpa using e);exact⟨y,by simpa using h1,h2⟩
 |_::_,[],_,_,h,_=>h.elim
theorem bO.length:∀{bs:L5} {xs:List Wn},bO H bs xs->bs.length=xs.length
 | [],[],_=>rfl
 |_::_,_::_,h=>by simp[bO.length h.2]
 | [],_::_,h=>h.elim
 |_::_,[],h=>h.elim
inductive jz(vs:List V)(H:Hp)(Q:VK)(_E:XK):Prop
 |mk (r c:Nat) (_:vs=[.int (r:Int),.int (c:Int)]) (_:r<=8) (_:c<=8) (_:∀(l:Addr) (bs:L5) (H':Hp),H l=none->H' l=some (.lst (bs.map V.ref))->bO H' bs (dN r c)->aA H H'->Q (.ref l) H')
theorem qg:aB ["rows","columns","windows","top","left","bottom","right"] ["rows","columns"] (ak gY):=by walk_at "c"
structure gm(H H':Hp)(l:Addr)(xs:List Wn)(n:Nat):Prop where
 ex:∃bs:List Addr,H' l=some (.lst (bs.map V.ref))/\bO H' bs xs/\bs.length<=n
 sm:aA H H'
theorem gm.more{m:Nat}(h:gm H H' l xs n)(hm:n<=m):gm H H' l xs m:=
 ⟨let ⟨bs,h1,h2,h3⟩:=h.ex;⟨bs,h1,h2,Lv h3 hm⟩,h.sm⟩
theorem gm.snoc{H H':Hp}{x:Wn}{n:Nat}{bs:L5}(hl:H l=none)(h1:H' l=some (.lst (bs.map V.ref)))(h2:bO H' bs xs)(h3:bs.length<=n)(sm:aA H H')(hp:H' p=none) :
  gm H (aG (aG H' p (.tup (x.map V.int))) l (.lst (bs.map V.ref++[V.ref p]))) l (xs++[x]) (n+1):=by
 have d:p≠l:=λe=>by rw[e,h1]at hp;cases hp
 refine⟨⟨bs++[p],?_,?_,by rw[Lm,q0Z];omega⟩,cO (cO sm (sm.free hp)) hl⟩
 ·rw[af,Lc];rfl
 ·refine bO.snoc (by rw[aq d,af]) ?_
  -- no tuple is the list
  have i:∀{b:L5} {a:List Wn},bO H' b a->bO (aG (aG H' p (.tup (x.map V.int))) l (.lst (bs.map V.ref++[V.ref p]))) b a:=by
   intro b
   induction b with
   |nil=>intro a h;cases a with
    |nil=>trivial
    |cons _ _=>exact h.elim
   |cons c b ih=>
    intro a h;cases a with
    |nil=>exact h.elim
    |cons y a=>
     have g:c≠l:=qz h.1 h1 (by intro z;cases z);exact⟨by rw[aq g,aq (az h.1 hp)];exact h.1,ih h.2⟩
  exact i h2
theorem qj{f:Addr}(F:dj K "windows_of" "windows_of" gY f fd)(nb:NB mg):↑aS 1 f fd ["rows","columns"] jz:=by
 have sc:=qg;walk_at "f"
 ·obtain⟨r,c,rfl,hr1,hc1,q⟩:=h
  refine⟨_,(ae (q01 2 sc.nd (bA ad))
   (ae (bd PassesOwn.never rfl (bM rfl nb.range (ac (am 0) ad)) (q02 3 sc.nd)
   (ag (bd PassesOwn.never rfl (bM rfl nb.range (ac (am 1) ad)) (q02 4 sc.nd)
   (ag (bd PassesOwn.never rfl (jc rfl nb.range (ac (aE (bD.m0 bW) (am 3) aj) (ac (aE (bD.m0 bW) (am 0) aj) ad))) (q02 5 sc.nd)
   (ag (bd PassesOwn.never rfl (jc rfl nb.range (ac (aE (bD.m0 bW) (am 4) aj) (ac (aE (bD.m0 bW) (am 1) aj) ad))) (q02 6 sc.nd)
   (ag (bE (gt PySem.F.plainAttrs_list PySem.F.slot_list_append PySem.F.type_list_append dt (am 2) (ac (b6 (ac (am 3) (ac (am 4) (ac (am 5) (ac (am 6) ad))))) ad)))))))))))
   (ag (aH (am 2))))),?_⟩
  ext;refine⟨av ⋯,λl y=>⟨⋯,⋯,?_⟩⟩;rw[K'];refine bN (lo:=0) (n:=r) (λt σ H1=>t<=r/\gm H H1 l (W1 r c t) (t*1000)/\∃j g d b,σ=[some (V.int r),some (V.int c),some (V.ref l),j,g,d,b])
   ⟨Lo _,⟨⟨[],af,trivial,Lo _⟩,ai y⟩,_,_,_,_,rfl⟩ ?_ ?_
  ·rintro t σ H1 I ⟨_,G,j,g,d,b,rfl⟩
   ext;refine⟨⋯,⋯,?_⟩;rw[K'];refine bN (lo:=0) (n:=c) (λa σ H2=>a<=c/\gm H H2 l (W1 r c t++W2 r c t a) (t*1000+a*100)/\∃g d b,σ=[some (V.int r),some (V.int c),some (V.ref l),some (V.int t),g,d,b])
    ⟨Lo _,by show gm H H1 l (W1 r c t++[]) _;rw[Ly];exact G.more ⋯,_,_,_,rfl⟩ ?_ ?_
   ·rintro a σ H2 x ⟨_,u,g,d,b,rfl⟩
    ext;refine⟨⋯,⋯,⋯,⋯,?_⟩;rw[show((r:Int)+1-((t:Int)+1)).toNat=r-t by omega];refine bN (lo:=(t:Int)+1) (n:=r-t) (λbt σ i=>bt<=r-t/\gm H i l (W1 r c t++W2 r c t a++W3 c t a bt) (t*1000+a*100+bt*10)/\∃d b,σ=[some (V.int r),some (V.int c),some (V.ref l),some (V.int t),some (V.int a),d,b])
     ⟨Lo _,by show gm H H2 l (W1 r c t++W2 r c t a++[]) _;rw[Ly];exact u.more ⋯,_,_,rfl⟩ ?_ ?_
    ·rintro bt σ i z ⟨_,o,d,b,rfl⟩
     ext;refine⟨⋯,⋯,⋯,⋯,?_⟩;rw[show((c:Int)+1-((a:Int)+1)).toNat=c-a by omega];refine bN (lo:=(a:Int)+1) (n:=c-a) (λk σ B=>k<=c-a/\gm H B l (W1 r c t++W2 r c t a++W3 c t a bt++W4 t a (t+1+bt) k) (t*1000+a*100+bt*10+k)/\∃b,σ=[some (V.int r),some (V.int c),some (V.ref l),some (V.int t),some (V.int a),some (V.int ((t:Int)+1+bt)),b])
      ⟨Lo _,by show gm H i l (W1 r c t++W2 r c t a++W3 c t a bt++[]) _;rw[Ly];exact o.more ⋯,_,rfl⟩ ?_ ?_
     ·rintro k σ B J ⟨_,m,b,rfl⟩
      obtain⟨⟨bs,h1,h2,D⟩,v⟩:=m;ext;refine⟨.inl ⟨rfl,_,aR.of h1⟩,av ⋯,λp C=>⟨_,by rw[aq (az h1 C)];exact h1,?_,J,?_⟩⟩
      ·rw[K3];exact bj ⋯
      ·rw[D_,<- Lz]
       have e:[V.int (t:Int),V.int (a:Int),V.int ((t:Int)+1+(bt:Int)),V.int ((a:Int)+1+(k:Int))]=(wn t a (t+1+bt) (a+1+k)).map V.int:=by unfold wn;simp
       rw[e];exact gm.snoc y h1 h2 D v C
     ·rintro σ B ⟨_,m,b,rfl⟩
      refine⟨z,?_,_,_,rfl⟩;rw[DQ,<- Lz];exact m.more ⋯
    ·rintro σ i ⟨_,o,d,b,rfl⟩
     refine⟨x,?_,_,_,_,rfl⟩;rw[Dx,<- Lz];exact o.more ⋯
   ·rintro σ H2 ⟨_,u,g,d,b,rfl⟩
    refine⟨I,?_,_,_,_,_,rfl⟩;rw[C9];exact u.more ⋯
  ·rintro σ H1 ⟨_,⟨⟨bs,h1,h2,D⟩,v⟩,j,g,d,b,rfl⟩
   ext;exact q l bs H1 y h1 h2 v
abbrev lP:Stmt:=fC 12
inductive CJ(K:W.Frag)(vs:List V)(H:Hp)(Q:VK)(_E:XK):Prop
 |mk (a tp:Addr) (p:aJ) (r c t l b x:Nat) (_:vs=[.ref a,.ref tp]) (_:aR K H a (aw p)) (_:gG K H tp ((wn t l b x).map V.int)) (_:rect p r c) (_:r<=64) (_:c<=64) (_:t<b) (_:b<=r) (_:l<x) (_:x<=c) (_:gx H (cut p t l b x) Q)
theorem wU:aB ["picture","window","top","left","bottom","right"] ["picture","window"] (ak lP):=by walk_at "c"
theorem CQ{row:LY}{l x:Nat}(h1:l<=x)(h2:x<=row.length):Txt.slice (tx row) (some (l:Int)) (some (x:Int))=tx ((row.drop l).take (x-l)):=by
 rw[gE,HT.sIx_nat,HT.sIx_nat,LS (show l<=row.length by omega),LS h2]
theorem Bj{p:aJ}{t b:Nat}(h1:t<=b)(h2:b<=p.length):pW (aw p) (some (t:Int)) (some (b:Int))=aw ((p.drop t).take (b-t)):=by
 unfold pW;rw[HT.sIx_nat,HT.sIx_nat,ax,LS (show t<=p.length by omega),LS h2];unfold aw;rw[List.map_take,List.map_drop]
theorem xF{f:Addr}(F:dj K "cut_out" "cut_out" lP f fd)(nb:NB mg):↑aS 1 f fd ["picture","window"] (CJ K):=by
 have sc:=wU;walk_at "f"
 ·obtain⟨a,tp,p,r,c,t,l,b,x,rfl,O,u,J,hr1,hc1,h1,h2,h3,h4,q⟩:=h
  refine⟨_,(ae (q01 2 sc.nd (ba bi (am 1) aj (λ_ _=>rfl)))
   (ae (aF (i:=3) sc.nd rfl (Or.inr rfl) (ba bi (am 1) aj (λ_ _=>rfl)))
   (ae (q01 4 sc.nd (ba bi (am 1) aj (λ_ _=>rfl)))
   (ae (aF (i:=5) sc.nd rfl (Or.inr rfl) (ba bi (am 1) aj (λ_ _=>rfl)))
   (ag (aH (cq ["row"] [3,5] rfl (bz.of (by kernel_rfl)) (by kernel_rfl) (aW (d8 uq (am 0) (dq (am 2)) (dq (am 4))))
    (λ_ _ _ _=>(aD (i:=0) (by show(["row","left","right"]:List Str).Nodup;decide +kernel) rfl (Or.inl rfl))) (λ_ _ _ _=>cv) (λ_ _ _ _=>(d8 oh (am 0) (dq (am 1)) (dq (am 2))))))))))),?_⟩
  ext;refine⟨_,u,V.int t,bV (j:=0) rfl,_,u,V.int l,bV (j:=1) rfl,_,u,V.int b,bV (j:=2) rfl,_,u,V.int x,bV (j:=3) rfl,_,rfl,_,rfl,_,O,λG B=>⟨⟨_,aR.of af⟩,?_⟩⟩;rw[Bj ⋯ (by rw[J.1];omega)];have I:∀e∈(p.drop t).take (b-t),e.length=c:=λe g=>J.2 e (q0I (q0H g));have m:((p.drop t).take (b-t)).length<=64:=by rw[LC];omega
  generalize C:(p.drop t).take (b-t)=q0 at I m ⊢;have D:aA H (aG H G (HO.lst (aw q0))):=ai B;refine c_ (xs:=aw q0) (λi d σ k=>k=aG H G (HO.lst (aw q0))/\d=aw ((q0.take i).map λe=>(e.drop l).take (x-l))/\i<=q0.length/\∃y,σ=[y,some (V.int l),some (V.int x)]) ⟨rfl,rfl,Lo _,_,rfl⟩ ?_ ?_ ?_ ?_ ?_
  ·rintro i d σ k ⟨_,rfl,M,_⟩
   rw[ax,K3,LC];exact bj ⋯
  ·rintro i d σ k ⟨_,_,h,_⟩
   rw[ax];exact h
  ·rintro i d σ k ⟨rfl,_⟩
   exact aR.of af
  ·rintro i v d σ k z ⟨rfl,rfl,M,y,rfl⟩
   have o:i<q0.length:=by have:=(K1.mp z).1;rwa [ax]at this
   rw[cw o]at z;cases z;have g:=I _ (K_ o);ext;refine⟨by rw[aC];exact av ⋯,?_,o⟩;rw[CQ ⋯ ⋯,q0E,K0 o,Lc];exact(dE _ _).symm
  ·rintro d σ k ⟨rfl,rfl,_⟩ L n
   rw[ax,LB];refine q L _ (D.free n) ?_ (D.trans (ai n));rw[af];unfold cut;rw[C]
abbrev dG:Stmt:=fC 25
def yu(ss:L9):Prop:=ss≠[]/\(ss.headD ⟨#[]⟩).length<=64
inductive dv(K:W.Frag)(vs:List V)(H:Hp)(Q:VK)(_E:XK):Prop
 |mk (a:Addr) (ss:L9) (_:vs=[.ref a]) (_:aR K H a (ss.map V.str)) (_:yu ss) (_:∀t,H t=none->Q (.ref t) (aG H t (.tup [.int (gj ss),.ref a])))
theorem jT:aB ["picture"] ["picture"] (ak dG):=by walk_at "c"
theorem dw(K:W.Frag):∀l ss H Q E,aR K H l (ss.map V.str)->yu ss->(∀t,H t=none->Q (.ref t) (aG H t (.tup [.int (gj ss),.ref l])))->dv K [.ref l] H Q E:=λl ss H Q E h1 h2 h3=>⟨l,ss,rfl,h1,h2,h3⟩
theorem jN{f:Addr}(F:dj K "cells_then_rows" "cells_then_rows" dG f fd)(nb:NB mg):↑aS 1 f fd ["picture"] (dv K):=by
 have sc:=jT;walk_at "f"
 ·obtain⟨a,c,rfl,b,e,q⟩:=h
  refine⟨_,(ag (aH (b6 (ac (aE (bD.m1 cW) (aN cN rfl nb.len cn (ac (am 0) ad)) (aN br rfl nb.len cn (ac (ba bS (am 0) aj (λ_ _=>rfl)) ad))) (ac (am 0) ad))))),?_⟩;ext;obtain⟨g,h1⟩:=e;obtain⟨z,c,rfl⟩:=List.exists_cons_of_ne_nil g;have h2:z.length<=64:=h1;have h3:((z.length:Nat):Int)<=64:=by omega
  refine⟨_,b,_,b,_,bV (j:=0) rfl,z,rfl,av ⋯,.inr ⟨⋯,⋯⟩,av ⋯,λp d=>?_⟩;have:=q p d;unfold gj at this;rw[K3];exact this
abbrev l8:Stmt:=fC 24
inductive nV(K:W.Frag)(vs:List V)(H:Hp)(Q:VK)(_E:XK):Prop
 |mk (a:Addr) (p:aJ) (r c:Nat) (_:vs=[.ref a]) (_:aR K H a (aw p)) (_:rect p r c) (_:0<r) (_:0<c) (_:r<=6) (_:c<=6) (_:bB p) (_:∀(H':Hp) (l:Addr) (zs:List AP),aA H H'->H l=none->H' l=some (.lst (zs.map λz=>V.ref z.1))->(∀z∈zs,H z.1=none/\H' z.1=some (.lst (aw z.2)))->(zs.map (·.1)).Nodup->Fi p r c (zs.map (·.2))->zs.length<=8000->Q (.ref l) H')
theorem bO.dict{H:Hp}(hd:H d=some (.dK kvs)):∀{bs:L5} {xs:List Wn},bO H bs xs->bO (aG H d o) bs xs
 | [],[],_=>trivial
 |_::_,_::_,h=>⟨by rw[aq (qz h.1 hd (by intro e;cases e))];exact h.1,bO.dict hd h.2⟩
 | [],_::_,h=>h.elim
 |_::_,[],h=>h.elim
theorem xG:aB ["picture","found","window","part","t","seen"] ["picture"] (ak l8):=by walk_at "c"
theorem wj{f:Addr}(F:dj K "seen_in" "seen_in" l8 f fd)(nb:NB mg){tkT:Tok}(yak:mg "TURNINGS"=some (.int 8 tkT))(yaO:↑dl 1 "windows_of" ["rows","columns"] jz)(yaI:↑dl 1 "cut_out" ["picture","window"] (CJ K))(zka:↑dl 3 "turned" ["picture","t"] (je K))(yab:↑dl 1 "shown" ["picture"] (dJ K))(ya5:↑dl 1 "cells_then_rows" ["picture"] (dv K)):↑aS 4 f fd ["picture"] (nV K):=by
 have sc:=xG;have dw:=dw K;walk_at "f"
 ·obtain⟨a,p,r,c,rfl,hS,hp,a9,d2,c3,d1,c4,q⟩:=h
  have hu:=hr.units;refine⟨_,(ae (q01 1 sc.nd nJ)
   (ae (bd PassesOwn.never rfl (aW (aI yaO (hr.mono nofun) rfl aL (ac (aN cN rfl nb.len cn (ac (am 0) ad)) (ac (aN br rfl nb.len cn (ac (ba bS (am 0) aj (λ_ _=>rfl)) ad)) ad)))) (q02 2 sc.nd)
   (ae (q01 3 sc.nd (aI yaI (hr.mono nofun) rfl aL (ac (am 0) (ac (am 2) ad))))
   (ag (bd PassesOwn.never rfl (bM rfl nb.range (ac (bZ (v:=.int 8) rfl yak ⟨_,rfl⟩) ad)) (q02 4 sc.nd)
   (ae (q01 5 sc.nd (aI zka (hr.mono nofun) rfl aL (ac (am 3) (ac (am 4) ad))))
   (ag (r_ (LH (LM (by decide:1<=64) _) hu) (am 1) (aI yab (hr.mono nofun) rfl aL (ac (am 5) ad)) (am 5) rfl)))))))
   (ag (aH (zy (hr.mono nofun) rfl rfl nb.sorted ya5 rfl dw (ac (Bs (am 1) rfl rfl) ad)))))),?_⟩
  ext;intro d hd;have a0:aA H (aG H d (HO.dK [])):=ai hd;obtain⟨c5,L⟩:=uH hp a9;refine⟨_,a0.seq hS,_,a0.seq hS,_,bV (j:=0) (cw c5),_,rfl,by rw[aC,L];exact av ⋯,?_⟩;rw[ax,hp.1,aC,L];refine⟨r,c,rfl,⋯,⋯,λwl bs H1 hwl J a8 a4=>?_⟩;have a1:=DG a9 c3 d2 d1;have hlen:(dN r c).length<=1000:=by unfold check at a1;simp only[q0O,q0b]at a1;exact a1.2
  have d4:=a8.length;have a5:=a0.trans a4;refine⟨_,rfl,⟨_,aR.of J⟩,?_⟩
  -- the windows
  refine bL (xs:=bs.map V.ref) (λi σ H2=>i<=bs.length/\(∃R,fm H H2 d (λx=>∃j,j<i/\∃u,u<8/\x=turned (AX p ((dN r c).getD j [])) u) R (8*i))/\H2 wl=some (.lst (bs.map V.ref))/\bO H2 bs (dN r c)/\∃x2 x3 U T,σ=[some (V.ref a),some (V.ref d),x2,x3,U,T]) ?_ ?_ ?_ ?_
  ·refine⟨Lo _,⟨[],?_⟩,J,a8,_,_,_,_,rfl⟩
   exact⟨by rw[a4 _ _ af];rfl,a5,hd,(λz hz=>nomatch hz),List.nodup_nil,List.nodup_nil,λx=>by simp,Lo _⟩
  ·rintro i σ H2 _ ⟨_,_,h,_⟩
   exact aR.of h
  ·rintro i x σ H2 hx ⟨_,⟨R,S⟩,a2,C,x2,x3,U,T,rfl⟩
   rw[K5]at hx;cases G:bs[i]? with
   |none=>rw[G]at hx;cases hx
   |some bt=>
    rw[G]at hx;cases hx
    have hi:i<bs.length:=(K1.mp G).1;obtain⟨w0,a7,b4⟩:=C.get G;obtain⟨t,l,b,x,rfl,h1,h2,h3,h4⟩:=oG.mp (K6 a7);ext;refine⟨a,bt,p,r,c,t,l,b,x,rfl,S.sm.seq hS,gG.of b4,hp,⋯,⋯,h1,h2,h3,h4,λpl H3 b1 b0 Z=>⟨⋯,?_⟩⟩;have b3:=cz hp h1 h2 h3 h4;have S3:=S.same Z;have b5:=Z _ _ a2;have c1:=C.same Z;have hpl0:=S.sm.free b1;clear S b1 a2 C b4;have eW:(dN r c).getD i []=wn t l b x:=by rw[q0A,a7];rfl
    have e8:Int.toNat 8=8:=rfl;rw[e8];refine bN (lo:=0) (n:=8) (λu σ H4=>(∃R,fm H H4 d (λy=>(∃j,j<i/\∃u,u<8/\y=turned (AX p ((dN r c).getD j [])) u)\/∃k,k<u/\y=turned (cut p t l b x) k) R (8*i+u))/\H4 pl=some (.lst (aw (cut p t l b x)))/\H4 wl=some (.lst (bs.map V.ref))/\bO H4 bs (dN r c)/\∃U T,σ=[some (V.ref a),some (V.ref d),some (V.ref bt),some (V.ref pl),U,T]) ?_ ?_ ?_
    ·exact⟨⟨R,S3.congr λy=>⟨.inl,λz=>z.elim id λ⟨k,c0,_⟩=>q0Q c0 (Nat.not_lt_zero _)⟩⟩,b0,b5,c1,_,_,rfl⟩
    ·rintro u σ H4 b8 ⟨⟨o,O⟩,D,B,a3,U,T,rfl⟩
     ext;refine⟨pl,cut p t l b x,b-t,x-l,u,by simp,aR.of D,b3,⋯,⋯,⋯,⋯,b8,λbq H5 d3 M m=>?_⟩;obtain⟨o1,o2,r',c',o3,o4,o5,o6,o7⟩:=yd (u:=u) hp c4 h1 h2 h3 h4;have c2:eC (turned (cut p t l b x) u):=eC.of o3 ⋯ ⋯;have c9:((turned (cut p t l b x) u).headD []).length<=64:=by rw[bp o3 o4];omega
     obtain⟨e1,S5⟩:=O.step m d3 M o1 o2 c9;refine⟨bq,turned (cut p t l b x) u,rfl,M,c2,aG H5 d (.dK ((lX o (bq,turned (cut p t l b x) u)).map ji)),.inl ⟨o.map ji,_,m _ _ O.tbl,rfl,by rw[K3];exact bj (by have:=O.len;omega),by rw[e1]⟩,⟨_,S5.congr λy=>?_⟩,?_,?_,(a3.same m).dict (m _ _ O.tbl)⟩
     ·constructor
      ·rintro((z | ⟨k,I,g⟩) | z)
       ·exact .inl z
       ·exact .inr ⟨k,⋯,g⟩
       ·exact .inr ⟨u,⋯,z⟩
      ·rintro(z | ⟨k,I,g⟩)
       ·exact .inl (.inl z)
       ·by_cases hq:k=u
        ·exact .inr (by rw[g,hq])
        ·exact .inl (.inr ⟨k,⋯,g⟩)
     ·rw[aq (qz D O.tbl (by intro e;cases e))];exact m _ _ D
     ·rw[aq (qz B O.tbl (by intro e;cases e))];exact m _ _ B
    ·rintro σ H4 ⟨⟨o,O⟩,D,B,a3,U,T,rfl⟩
     refine⟨hi,⟨o,O.congr λy=>?_⟩,B,a3,_,_,_,_,rfl⟩
     constructor
     ·rintro(⟨j,I,g⟩ | ⟨k,I,g⟩)
      ·exact⟨j,⋯,g⟩
      ·exact⟨i,⋯,k,I,by rw[eW,mZ];exact g⟩
     ·rintro⟨j,I,k,g,z3⟩
      by_cases hq:j=i
      ·rw[hq,eW,mZ]at z3
       exact .inr ⟨k,g,z3⟩
      ·exact .inl ⟨j,⋯,k,g,z3⟩
  ·rintro σ H2 ⟨_,⟨R,S⟩,a2,C,x2,x3,U,T,rfl⟩
   ext;refine⟨_,S.tbl,λv hv=>⟨d,af,R.map E5,?_,?_,?_⟩⟩
   ·rw[aq (az S.tbl hv),S.tbl,Le];rfl
   ·intro e he
    obtain⟨z,hz,rfl⟩:=LK.mp he;obtain⟨I,g,z3,z4,z5⟩:=S.each z hz;refine⟨?_,?_,?_⟩
    ·refine aR.of ?_
     show aG H2 v (uB v d) z.1=some (.lst ((z.2.map tx).map V.str));rw[aq (az g hv),g,jS]
    ·show z.2.map tx≠[]
     exact λe=>z3 (List.map_eq_nil_iff.mp e)
    ·show((z.2.map tx).headD ⟨#[]⟩).length<=64
     rw[xY];exact z5
   ·intro es pe se H' l' a6 c6 b2
    obtain⟨ws,pw,rfl⟩:=vF pe _ rfl;have Y:aA H2 (aG H2 v (uB v d)):=ai hv;refine q H' l' ws (S.sm.trans (Y.trans a6)) (S.sm.free (Y.free c6)) ?_ ?_ ?_ ?_ (by have h1:=S.len;have h2:=pw.length_eq;rw[K3]at h1;omega)
    ·rw[b2,Le];rfl
    ·intro z hz
     obtain⟨I,g,_⟩:=S.each z (pw.mem_iff.mp hz);exact⟨I,a6 _ _ (Y _ _ g)⟩
    ·exact(pw.map _).nodup_iff.mpr S.nda
    ·refine⟨λy=>?_,zY se ((pw.map _).nodup_iff.mpr S.ndp)⟩
     rw[(pw.map _).mem_iff,S.mem,qF,K3,d4]
abbrev Ky:=List Nat×List Nat
def Fg(k:Ky):List V:=[.str (tx k.1),.str (tx k.2)]
def jX(k:Ky):List cP:=[.inr (tx k.1),.inr (tx k.2)]
theorem dD(h:tx a=tx b):a=b:=by
 have e:(tx a).cps.toList=(tx b).cps.toList:=by rw[h]
 rwa [dg,dg]at e
theorem vy(h:jX a=jX b):a=b:=by
 obtain⟨a1,a2⟩:=a;obtain⟨b1,b2⟩:=b;unfold jX at h;simp only[List.cons.injEq,Sum.inr.injEq,and_true]at h;rw[dD h.1,dD h.2]
def a_(H:Hp)(a:Addr)(k:Ky):Prop:=H a=some (.tup (Fg k))
theorem a_.up(h:a_ H a k)(s:aA H H'):a_ H' a k:=s _ _ h
theorem a_.put(h:a_ H a k)(hl:H l=some (.lst xs)):a_ (aG H l o) a k:=by
 have b:H a=some (.tup (Fg k)):=h;show aG H l o a=_;rw[aq (λz=>by rw[z,hl]at b;cases b)];exact b
abbrev bo(p:aJ):List Nat:=SpM.glue 47 p
theorem yp{β:Type}{A:Hp->Addr->β->Prop}(u:∀{H H':Hp} {b:Addr} {y:β},A H b y->aA H H'->A H' b y){H H':Hp}{l:Addr}{ys:List β}(h:kG A H l ys)(s:aA H H'):kG A H' l ys:=by
 obtain⟨bs,h1,h2⟩:=h;exact⟨bs,s _ _ h1,h2.mono λb y _ _ q=>u q s⟩
abbrev kf:Hp->Addr->List Ky->Prop:=kG a_
theorem uf(h:kf H b y)(s:aA H H'):kf H' b y:=yp (A:=a_) a_.up h s
def bH(sb:Bool)(p:aJ)(m:Nat):List Ky:=(List.range (m-1)).map λj=>(bo (qP sb p (j+1)),bo (lL sb p (j+1)))
def eF(CC:Addr)(H:Hp)(c:Addr)(p:aJ):Prop:=∃dx lp lb la,H c=some (.ins CC dx [("picture",.ref lp),("text",.str (tx (bo p))),("beside_texts",.ref lb),("above_texts",.ref la)])/\H lp=some (.lst (aw p))/\kG a_ H lb (bH true p (p.headD []).length)/\kG a_ H la (bH false p p.length)
theorem eF.up(h:eF CC H c p)(s:aA H H'):eF CC H' c p:=by
 obtain⟨i,a,b,d,h1,h2,g,e⟩:=h;exact⟨i,a,b,d,s _ _ h1,s _ _ h2,yp (A:=a_) a_.up g s,yp (A:=a_) a_.up e s⟩
def bP(r:Nat×RV)(p:aJ):List (List Ky):=match r.1 with
 |0=>if bo p=r.2.sg then[[]] else[]
 |1=>(bH true p (p.headD []).length).map λk=>[(k.1,r.2.o1),(k.2,r.2.o2)]
 |2=>(bH false p p.length).map λk=>[(k.1,r.2.o1),(k.2,r.2.o2)]
 |_=>[[(bo (turned p (dM r.2.t.toNat)),r.2.o1)]]
def bU(T:Ky->Option Int):Int->List Ky->Option Int
 |c,[]=>some c
 |c,k::ks=>match T k with
  |none=>none
  |some v=>bU T (c+v) ks
def iI(H:Hp)(d:Addr)(T:Ky->Option Int):Prop:=∃kvs,H d=some (.dT kvs)/\∀k,dF kvs (jX k)=(T k).map V.int
theorem iI.up(h:iI H d T)(s:aA H H'):iI H' d T:=let ⟨kvs,h1,h2⟩:=h;⟨kvs,s _ _ h1,h2⟩
theorem iI.get(h:iI H d T)(hb:a_ H b k):kC H d (.ref b) ((T k).map V.int):=by
 obtain⟨kvs,h1,h2⟩:=h;rw[<- h2 k];exact kC.t h1 hb
structure iS(p:aJ)(r c:Nat):Prop where
 rc:rect p r c
 r0:0<r
 r6:r<=6
 c0:0<c
 c6:c<=6
theorem iS.small(h:iS p r c):eC p:=eC.of h.rc (by have:=h.r6;omega) (by have:=h.c6;omega)
theorem sF{ks:List Ky}{fs:List (Str×V)}(h:kG a_ H l ks)(ha:H a=some (.ins C dx fs)):kG a_ (aG H a o) l ks:=by
 obtain⟨bs,h1,h2⟩:=h;exact⟨bs,by rw[aq (λz=>by rw[z,ha]at h1;cases h1)];exact h1,h2.mono λb y _ _ q=>by
  have c:H b=some (.tup (Fg y)):=q;show aG H a o b=_;rw[aq (λz=>by rw[z,ha]at c;cases c)];exact c⟩
theorem DY{c:Prop}[Decidable c]{A B:Prop}(hA:c->A)(hB:¬ c->B):if c then A else B:=by
 by_cases h:c
 ·rw[q07 h];exact hA h
 ·rw[q06 h];exact hB h
abbrev fg:Stmt:=fC 28
inductive ig(K:W.Frag)(vs:List V)(H:Hp)(Q:VK)(_E:XK):Prop
 |mk (sb:Bool) (a:Addr) (p:aJ) (r c m:Nat) (_:vs=[.ref a,.bl sb,.int (m:Int)]) (_:aR K H a (aw p)) (_:iS p r c) (_:m=(if sb=true then c else r)) (_:∀l H',H l=none->kG a_ H' l (bH sb p m)->aA H H'->Q (.ref l) H')
theorem mL:aB ["picture","side_by_side","many","texts","at","two"] ["picture","side_by_side","many"] (ak fg):=by walk_at "c"
theorem uv{sb:Bool}(h:iS p r c):eC (qP sb p n)/\eC (lL sb p n):=by
 have:=h.small;cases sb with
 |true=>
  refine⟨⟨?_,λx a=>?_⟩,⟨?_,λx a=>?_⟩⟩
  ·show(p.map _).length<=_;rw[K3];exact this.1
  ·obtain⟨y,b,rfl⟩:=LK.mp a
   rw[LC];exact Lv (Nat.min_le_right _ _) (this.2 y b)
  ·show(p.map _).length<=_;rw[K3];exact this.1
  ·obtain⟨y,b,rfl⟩:=LK.mp a
   rw[LD];exact Lv (Nat.sub_le _ _) (this.2 y b)
 |false=>
  refine⟨⟨?_,λx a=>?_⟩,⟨?_,λx a=>?_⟩⟩
  ·show(p.take n).length<=_;rw[LC];exact Lv (Nat.min_le_right _ _) this.1
  ·exact this.2 x (q0H a)
  ·show(p.drop n).length<=_;rw[LD];exact Lv (Nat.sub_le _ _) this.1
  ·exact this.2 x (q0I a)
theorem mF{f:Addr}(F:dj K "parted_texts" "parted_texts" fg f fd)(nb:NB mg)(yba:↑dl 1 "parted" ["picture","side_by_side","at"] (rL K))(yab:↑dl 1 "shown" ["picture"] (dJ K)):↑aS 2 f fd ["picture","side_by_side","many"] (ig K):=by
 have sc:=mL;walk_at "f"
 ·obtain⟨sb,a,p,r,c,m,rfl,Z,e,S,q⟩:=h
  have:=e.r6;have:=e.c6;have:=e.r0;have:=e.c0;have m1:1<=m/\m<=6:=by rw[S];split<;>omega
  refine⟨_,(ae (q01 3 sc.nd (bA ad))
   (ae (bd PassesOwn.never rfl (jc rfl nb.range (ce (ac (am 2) ad))) (q02 4 sc.nd)
   (ae (q01 5 sc.nd (aI yba (hr.mono nofun) rfl aL (ac (am 0) (ac (am 1) (ac (am 4) ad)))))
   (ag (bE (gt PySem.F.plainAttrs_list PySem.F.slot_list_append PySem.F.type_list_append dt (am 3) (ac (b6 (ac (aI yab (hr.mono nofun) rfl aL (ac (ba bi (am 5) aj (λ_ _=>rfl)) ad)) (ac (aI yab (hr.mono nofun) rfl aL (ac (ba bi (am 5) aj (λ_ _=>rfl)) ad)) ad))) ad))))))
   (ag (aH (am 3))))),?_⟩
  symm;refine⟨Lo _,λl J=>h1 _ _ ?_⟩;clear h1;generalize v:aG H l _=H1;obtain⟨T,e1⟩:=jR J v;symm;rw[show((m:Int)-1).toNat=m-1 by omega];refine⟨nofun,⋯,⋯,?_⟩;refine bN (lo:=1) (n:=m-1) (λi σ g=>aA H g/\i<=m-1/\(∃bs:List Addr,g l=some (.lst (bs.map V.ref))/\aM a_ g bs ((List.range i).map λj=>(bo (qP sb p (j+1)),bo (lL sb p (j+1)))))/\∃x y,σ=[some (V.ref a),some (V.bl sb),some (V.int (m:Int)),some (V.ref l),x,y]) ⟨T,Lo _,⟨[],e1,aM.nil⟩,_,_,rfl⟩ ?_ ?_
  ·rintro i σ g hi ⟨o,_,⟨bs,M,u⟩,x,y,rfl⟩
   symm;refine⟨sb,a,p,r,c,i+1,by push_cast;rw[Int.add_comm],o.seq Z,e.rc,⋯,⋯,by rw[<- S];omega,λt Y U H2 ht hl1 hl2 hne et R O G=>h1 _ _ ?_⟩;clear h1;obtain⟨C,B⟩:=uv (sb:=sb) (n:=i+1) e;ext;have k:=G _ _ M;refine⟨.inl ⟨rfl,_,aR.of k⟩,_,gG.of et,_,rfl,Y,qP sb p (i+1),rfl,R,C,_,gG.of et,_,rfl,U,lL sb p (i+1),rfl,O,B,av nofun,λz I=>?_⟩;generalize v:aG H2 z _=H3;obtain⟨D,(e3:a_ H3 z (bo (qP sb p (i+1)),bo (lL sb p (i+1))))⟩:=jR I v;have d:=D _ _ k;have L:=u.1;rw[K3,q0J]at L;refine⟨_,d,by rw[K3];exact bj ⋯,cO ((o.trans G).trans D) J,⋯,bs++[z],by rw[af,Lc];rfl,?_⟩;rw[q0M,Lc];exact(u.mono λb y _ _ h=>((h.up G).up D).put d).snoc (e3.put d)
  ·rintro σ g ⟨o,_,⟨bs,M,u⟩,x,y,rfl⟩
   refine h1 _ _ ?_;ext;exact q l g J ⟨bs,M,u⟩ o
abbrev fK:Stmt:=iB 27 0
def EK(K:W.Frag)(C:Addr):Prop:=au K C "picture"/\au K C "text"/\au K C "beside_texts"/\au K C "above_texts"
inductive hX(K:W.Frag)(vs:List V)(H:Hp)(Q:VK)(_E:XK):Prop
 |mk (a C dx b:Addr) (p:aJ) (r c:Nat) (_:vs=[.ref a,.ref b]) (_:H a=some (.ins C dx [])) (_:io K C) (_:EK K C) (_:H b=some (.lst (aw p))) (_:iS p r c) (_:∀H',eF C H' a p->aT a H H'->Q .non H')
theorem sw:aB ["self","picture"] ["self","picture"] (ak fK):=by walk_at "c"
theorem ud{f:Addr}(F:dj K "__init__" "Cuts.__init__" fK f fd)(nb:NB mg)(yab:↑dl 1 "shown" ["picture"] (dJ K))(yat:↑dl 2 "parted_texts" ["picture","side_by_side","many"] (ig K)):↑aS 3 f fd ["self","picture"] (hX K):=by
 have sc:=sw;walk_at "f"
 ·obtain⟨a,C,d,b,p,r,c,rfl,R,G,⟨n1,n2,n3,n4⟩,n,i,q⟩:=h
  refine⟨_,(ae (cr (am 0) (dz c8 rfl nb.list fF (ac (am 1) ad)) rfl)
   (ae (cr (am 0) (aI yab (hr.mono nofun) rfl aL (ac (am 1) ad)) rfl)
   (ae (cr (am 0) (aI yat (hr.mono nofun) rfl aL (ac (am 1) (ac o9 (ac (aN br rfl nb.len cn (ac (ba bS (am 1) aj (λ_ _=>rfl)) ad)) ad)))) rfl)
   (ag (cr (am 0) (aI yat (hr.mono nofun) rfl aL (ac (am 1) (ac o9 (ac (aN cN rfl nb.len cn (ac (am 1) ad)) ad)))) rfl))))),?_⟩
  symm;refine⟨_,.inl (aR.of n),λl z=>⟨C,d,_,ai z _ _ R,G,n1,nofun,h1 _ _ ?_⟩⟩;clear h1;have j:l≠a:=λe=>by rw[e,R]at z;cases z
  have k:b≠a:=λe=>by rw[e,R]at n;cases n
  have L:aT a H (aG (aG H l (.lst (aw p))) a (.ins C d [("picture",.ref l)])):=(aT.of (ai z)).put;have e1:aG (aG H l (.lst (aw p))) a (.ins C d [("picture",.ref l)]) a=some (.ins C d [("picture",.ref l)]):=af;have l1:aG (aG H l (.lst (aw p))) a (.ins C d [("picture",.ref l)]) l=some (.lst (aw p)):=by rw[aq j,af]
  change yY _ _ _ _ (aG (aG H l (.lst (aw p))) a (.ins C d [("picture",.ref l)]));generalize aG (aG H l (.lst (aw p))) a (.ins C d [("picture",.ref l)])=H1 at L e1 l1 ⊢;have b1:=L _ _ k n;have d1:¬ (("picture":Str)="text"):=by decide +kernel
  have d2:¬ (("picture":Str)="beside_texts"):=by decide +kernel
  have d3:¬ (("picture":Str)="above_texts"):=by decide +kernel
  have d4:¬ (("text":Str)="beside_texts"):=by decide +kernel
  have d5:¬ (("text":Str)="above_texts"):=by decide +kernel
  have d6:¬ (("beside_texts":Str)="above_texts"):=by decide +kernel
  have U:cE "text" (V.str (tx (bo p))) [(("picture":Str),V.ref l)]=[(("picture":Str),V.ref l),(("text":Str),V.str (tx (bo p)))]:=by simp only[cE,q06 d1]
  symm;refine⟨b,p,rfl,b1,i.small,C,d,_,e1,G,n2,by simp,?_⟩;rw[U];refine h1 _ _ ?_;clear h1;have J:aT a H (aG H1 a (.ins C d [("picture",.ref l),("text",.str (tx (bo p)))])):=L.put;have D:aG H1 a (.ins C d [("picture",.ref l),("text",.str (tx (bo p)))]) a=some (.ins C d [("picture",.ref l),("text",.str (tx (bo p)))]):=af;have Z:aG H1 a (.ins C d [("picture",.ref l),("text",.str (tx (bo p)))]) l=some (.lst (aw p)):=by rw[aq j];exact l1
  generalize aG H1 a (.ins C d [("picture",.ref l),("text",.str (tx (bo p)))])=H2 at J D Z ⊢;have b2:=J _ _ k n;have:=i.r6;have:=i.c6;obtain⟨O,o⟩:=uH i.rc i.r0;symm;refine⟨_,aR.of b2,_,(show pJ _ ((0:Nat):Int)=_ from bV (cw O)),_,rfl,by rw[aC];exact av ⋯,?_⟩;rw[aC,o];refine⟨true,b,p,r,c,c,rfl,aR.of b2,i,rfl,λg x u eb y=>⟨C,d,_,y _ _ D,G,n3,by simp,?_⟩⟩;have hbl:g≠a:=λe=>by rw[e,D]at u;cases u
  have T:cE "beside_texts" (V.ref g) [(("picture":Str),V.ref l),(("text":Str),V.str (tx (bo p)))]=[(("picture":Str),V.ref l),(("text":Str),V.str (tx (bo p))),(("beside_texts":Str),V.ref g)]:=by simp only[cE,q06 d2,q06 d4]
  rw[T];refine h1 _ _ ?_;clear h1;have I:aT a H (aG x a (.ins C d [("picture",.ref l),("text",.str (tx (bo p))),("beside_texts",.ref g)])):=(J.then y).put;have B:aG x a (.ins C d [("picture",.ref l),("text",.str (tx (bo p))),("beside_texts",.ref g)]) a=some (.ins C d [("picture",.ref l),("text",.str (tx (bo p))),("beside_texts",.ref g)]):=af;have Y:aG x a (.ins C d [("picture",.ref l),("text",.str (tx (bo p))),("beside_texts",.ref g)]) l=some (.lst (aw p)):=by rw[aq j];exact y _ _ Z
  have v:kG a_ (aG x a (.ins C d [("picture",.ref l),("text",.str (tx (bo p))),("beside_texts",.ref g)])) g (bH true p c):=sF eb (y _ _ D);generalize aG x a (.ins C d [("picture",.ref l),("text",.str (tx (bo p))),("beside_texts",.ref g)])=H4 at I B Y v ⊢;have b3:=I _ _ k n;ext;refine⟨_,aR.of b3,?_⟩;rw[ax,i.rc.1];refine⟨false,b,p,r,c,r,rfl,aR.of b3,i,rfl,λM H5 hla5 ea m=>⟨C,d,_,m _ _ B,G,n4,by simp,?_⟩⟩;have S:cE "above_texts" (V.ref M) [(("picture":Str),V.ref l),(("text":Str),V.str (tx (bo p))),(("beside_texts":Str),V.ref g)]=[(("picture":Str),V.ref l),(("text":Str),V.str (tx (bo p))),(("beside_texts":Str),V.ref g),(("above_texts":Str),V.ref M)]:=by simp only[cE,q06 d3,q06 d5,q06 d6]
  rw[S];refine q _ ⟨d,l,g,M,af,by rw[aq j];exact m _ _ Y,?_,?_⟩ ((I.then m).put)
  ·rw[bp i.rc i.r0]
   exact sF (yp (A:=a_) a_.up v m) (m _ _ B)
  ·rw[i.rc.1]
   exact sF ea (m _ _ B)
abbrev dW:Stmt:=iB 27 1
inductive fA(CC:Addr)(vs:List V)(H:Hp)(Q:VK)(_E:XK):Prop
 |mk (a:Addr) (p:aJ) (r c t:Nat) (_:vs=[.ref a,.int (t:Int)]) (_:eF CC H a p) (_:iS p r c) (_:t<8) (_:∀H',aA H H'->Q (.str (tx (bo (turned p t)))) H')
theorem nY:aB ["self","t"] ["self","t"] (ak dW):=by walk_at "c"
theorem iS.turned(h:iS p r c)(t:Nat):∃r' c',iS (turned p t) r' c':=by
 have:=cS h.rc h.r0 h.c0 t;have h1:=h.r0;have h2:=h.c0;have h3:=h.r6;have h4:=h.c6;exact⟨_,_,this,by split<;>omega,by split<;>omega,by split<;>omega,by split<;>omega⟩
theorem nR{f:Addr}(F:dj K "turned_text" "Cuts.turned_text" dW f fd)(nb:NB mg)(cl:io K CC)(na:EK K CC)(zka:↑dl 3 "turned" ["picture","t"] (je K))(yab:↑dl 1 "shown" ["picture"] (dJ K)):↑aS 4 f fd ["self","t"] (fA CC):=by
 have sc:=nY;walk_at "f"
 ·obtain⟨a,p,r,c,t,rfl,⟨n,g,lb,la,k,j,_,_⟩,b,i,q⟩:=h
  refine⟨_,(ag (aH (aI yab (hr.mono nofun) rfl aL (ac (aI zka (hr.mono nofun) rfl aL (ac (bw (am 0) rfl) (ac (am 1) ad))) ad)))),?_⟩;have:=b.r6;have:=b.c6;obtain⟨r',c',d⟩:=b.turned t;ext;refine⟨CC,n,_,k,cl,na.1,_,rfl,g,p,r,c,t,rfl,aR.of j,b.rc,b.r0,b.c0,⋯,⋯,i,λl H1 hl m e=>⟨l,turned p t,rfl,m,d.small,q H1 e⟩⟩
def pd(H0 H:Hp)(b:Addr)(y:List Ky):Prop:=H0 b=none/\kf H b y
theorem pd.up{H0:Hp}(h:pd H0 H b y)(s:aA H H'):pd H0 H' b y:=⟨h.1,uf h.2 s⟩
inductive dr(CC C:Addr)(t:Nat)(vs:List V)(H:Hp)(Q:VK)(_E:XK):Prop
 |mk (a dx lp cu:Addr) (v:RV) (p:aJ) (r c:Nat) (_:vs=[.ref a,.ref cu]) (_:H a=some (.ins C dx (vO t lp v))) (_:eF CC H cu p) (_:iS p r c) (_:0<=v.t) (_:v.t<=7) (_:∀l H',H l=none->kG (pd H) H' l (bP (t,v) p)->aA H H'->Q (.ref l) H')
abbrev fR:Stmt:=iB 38 4
theorem ue:aB ["self","cuts"] ["self","cuts"] (ak fR):=by walk_at "c"
theorem tH{f:Addr}(F:dj K "ways" "CellRule.ways" fR f fd)(cc:io K CC)(nc:EK K CC)(cl:io K C)(na:au K C "sign"):↑aS 1 f fd ["self","cuts"] (dr CC C 0):=by
 have sc:=ue;walk_at "f"
 ·obtain⟨a,k,lp,cu,v,p,r,c,rfl,j,⟨l,b,l2,l3,i,_,_,_⟩,hp,t0,t7,q⟩:=h
  refine⟨_,(ag (aH (AT (aU d0 (bw (am 1) rfl) (bw (am 0) rfl) (aX _)) (bA (ac (bA ad) ad)) (bA ad)))),?_⟩;ext;refine⟨CC,l,_,i,cc,nc.2.1,_,rfl,C,k,_,j,cl,na,_,rfl,rfl,?_⟩;refine DY (λe=>?_) (λe=>?_)
  ·rw[show bP (0,v) p=[[]] from q07 (dD (V.str.inj e))]at q
   exact⟨Lo _,λg d=>⟨av nofun,λb h1=>q b _ ((ai d).free h1) ⟨[g],af,aM.one ⟨d,[],ai h1 _ _ af,aM.nil⟩⟩ ((ai d).trans (ai h1))⟩⟩
  ·rw[show bP (0,v) p=[] from q06 λh=>e (by rw[h])]at q
   exact⟨Lo _,λb h1=>q b _ h1 ⟨[],af,aM.nil⟩ (ai h1)⟩
abbrev dZ:Stmt:=iB 39 4
theorem nw:aB ["self","cuts"] ["self","cuts"] (ak dZ):=by walk_at "c"
theorem oI{f:Addr}(F:dj K "ways" "BesideRule.ways" dZ f fd)(cc:io K CC)(nc:EK K CC)(cl:io K C)(na:au K C "one"/\au K C "other"):↑aS 1 f fd ["self","cuts"] (dr CC C 1):=by
 have sc:=nw;walk_at "f"
 ·obtain⟨a,Y,lp,cu,v,p,r,c,rfl,ha,⟨dc,l1,l2,l3,hc,_,⟨bs,U,O⟩,_⟩,J,t0,t7,q⟩:=h
  have hu:=hr.units;refine⟨_,(ag (aH (cq ["first","second"] [0] rfl (bz.of (by kernel_rfl)) (by kernel_rfl) (aW (bw (am 1) rfl))
    (λ_ _ _ _=>(sG (K:=K) (n:=2) rfl rfl (cj (aD (i:=0) (by show(["first","second","self"]:List Str).Nodup;decide +kernel) rfl (Or.inl rfl)) (cj (aD (i:=1) (by show(["first","second","self"]:List Str).Nodup;decide +kernel) rfl (Or.inl rfl)) gQ)))) (λ_ _ _ _=>cv) (λ_ _ _ _=>(bA (ac (b6 (ac (am 0) (ac (nu (K:=K) rfl (am 2) rfl) ad))) (ac (b6 (ac (am 1) (ac (nu (K:=K) rfl (am 2) rfl) ad))) ad))))))),?_⟩
  ext;refine⟨CC,dc,_,hc,cc,nc.2.2.1,_,rfl,_,rfl,⟨_,aR.of U⟩,?_⟩;have m:(bs.zip (bH true p (p.headD []).length)).length=(bP (1,v) p).length:=by
   show _=((bH true p (p.headD []).length).map _).length;rw[q0N,O.1,K3,Nat.min_self]
  have hpl:(bH true p (p.headD []).length).length<=6:=by
   unfold bH;rw[K3,q0J,bp J.rc J.r0];have:=J.c6;omega
  refine g8 (pd H) pd.up (as:=bs.zip (bH true p (p.headD []).length)) (emb:=λx=>V.ref x.1) (ys:=bP (1,v) p) m (λσ=>∃x y,σ=[x,y,some (V.ref a)]) ⟨_,_,rfl⟩ (λR s=>by rw[<- O.zip];exact aR.of (s _ _ U)) (by rw[q0N];omega) ?_ ?_
  ·rintro i ⟨b,k⟩ y hx hy σ R N1 N0 ⟨x0,y0,rfl⟩ d k1
   obtain⟨L,M⟩:=O.at hx;have L:(bH true p (p.headD []).length)[i]?=some k:=L;have j:((bH true p (p.headD []).length).map λk=>[(k.1,v.o1),(k.2,v.o2)])[i]?=some y:=hy;rw[K5,L]at j;cases j;ext;have Z:=d _ _ ha;refine⟨_,gG.of (d _ _ M),rfl,_,_,rfl,_,_,rfl,rfl,C,Y,_,Z,cl,na.1,_,rfl,av nofun,λz I=>?_⟩;generalize D:aG R z _=H1;obtain⟨T,(e1:a_ H1 z (k.1,v.o1))⟩:=jR I D;refine⟨C,Y,_,T _ _ Z,cl,na.2,_,rfl,av nofun,λu G=>⟨av nofun,λl g=>?_⟩⟩;generalize D:aG H1 u _=H2 at g ⊢;obtain⟨S,(e2:a_ H2 u (k.2,v.o2))⟩:=jR G D;have B:=ai (o:=.lst [V.ref z,V.ref u]) g;have e:=T.trans S;exact k1 l _ _ ⟨d.free (e.free g),[z,u],af,aM.two ((e1.up S).up B) (e2.up B)⟩ (d.trans (e.trans B)) (e.trans B) ⟨_,_,rfl⟩
  ·intro ws R d hW l g
   exact q l _ (d.free g) ⟨ws,af,hW.mono λb y _ _ h=>pd.up h (ai g)⟩ (d.trans (ai g))
abbrev eX:Stmt:=iB 40 4
theorem pS:aB ["self","cuts"] ["self","cuts"] (ak eX):=by walk_at "c"
theorem pR{f:Addr}(F:dj K "ways" "AboveRule.ways" eX f fd)(cc:io K CC)(nc:EK K CC)(cl:io K C)(na:au K C "one"/\au K C "other"):↑aS 1 f fd ["self","cuts"] (dr CC C 2):=by
 have sc:=pS;walk_at "f"
 ·obtain⟨a,Y,lp,cu,v,p,r,c,rfl,ha,⟨dc,l1,l2,l3,hc,_,_,⟨bs,U,M⟩⟩,T,t0,t7,q⟩:=h
  have hu:=hr.units;refine⟨_,(ag (aH (cq ["first","second"] [0] rfl (bz.of (by kernel_rfl)) (by kernel_rfl) (aW (bw (am 1) rfl))
    (λ_ _ _ _=>(sG (K:=K) (n:=2) rfl rfl (cj (aD (i:=0) (by show(["first","second","self"]:List Str).Nodup;decide +kernel) rfl (Or.inl rfl)) (cj (aD (i:=1) (by show(["first","second","self"]:List Str).Nodup;decide +kernel) rfl (Or.inl rfl)) gQ)))) (λ_ _ _ _=>cv) (λ_ _ _ _=>(bA (ac (b6 (ac (am 0) (ac (nu (K:=K) rfl (am 2) rfl) ad))) (ac (b6 (ac (am 1) (ac (nu (K:=K) rfl (am 2) rfl) ad))) ad))))))),?_⟩
  ext;refine⟨CC,dc,_,hc,cc,nc.2.2.2,_,rfl,_,rfl,⟨_,aR.of U⟩,?_⟩;have m:(bs.zip (bH false p p.length)).length=(bP (2,v) p).length:=by
   show _=((bH false p p.length).map _).length;rw[q0N,M.1,K3,Nat.min_self]
  have hpl:(bH false p p.length).length<=6:=by
   unfold bH;rw[K3,q0J,T.rc.1];have:=T.r6;omega
  refine g8 (pd H) pd.up (as:=bs.zip (bH false p p.length)) (emb:=λx=>V.ref x.1) (ys:=bP (2,v) p) m (λσ=>∃x y,σ=[x,y,some (V.ref a)]) ⟨_,_,rfl⟩ (λO s=>by rw[<- M.zip];exact aR.of (s _ _ U)) (by rw[q0N];omega) ?_ ?_
  ·rintro i ⟨b,k⟩ y hx hy σ O N1 N0 ⟨x0,y0,rfl⟩ d k1
   obtain⟨J,L⟩:=M.at hx;have J:(bH false p p.length)[i]?=some k:=J;have j:((bH false p p.length).map λk=>[(k.1,v.o1),(k.2,v.o2)])[i]?=some y:=hy;rw[K5,J]at j;cases j;ext;have Z:=d _ _ ha;refine⟨_,gG.of (d _ _ L),rfl,_,_,rfl,_,_,rfl,rfl,C,Y,_,Z,cl,na.1,_,rfl,av nofun,λz I=>?_⟩;generalize D:aG O z _=H1;obtain⟨S,(e1:a_ H1 z (k.1,v.o1))⟩:=jR I D;refine⟨C,Y,_,S _ _ Z,cl,na.2,_,rfl,av nofun,λu G=>⟨av nofun,λl g=>?_⟩⟩;generalize D:aG H1 u _=H2 at g ⊢;obtain⟨R,(e2:a_ H2 u (k.2,v.o2))⟩:=jR G D;have B:=ai (o:=.lst [V.ref z,V.ref u]) g;have e:=S.trans R;exact k1 l _ _ ⟨d.free (e.free g),[z,u],af,aM.two ((e1.up R).up B) (e2.up B)⟩ (d.trans (e.trans B)) (e.trans B) ⟨_,_,rfl⟩
  ·intro ws O d hW l g
   exact q l _ (d.free g) ⟨ws,af,hW.mono λb y _ _ h=>pd.up h (ai g)⟩ (d.trans (ai g))
abbrev fD:Stmt:=iB 41 4
theorem rU:aB ["self","cuts"] ["self","cuts"] (ak fD):=by walk_at "c"
theorem tJ{f:Addr}(F:dj K "ways" "TurnRule.ways" fD f fd)(cc:jk K CC)(cl:io K C)(na:au K C "part"/\au K C "turning")(zJa:↑gI 4 CC "turned_text" ["self","t"] (fA CC))(ya6:↑dl 1 "back" ["t"] yC):↑aS 5 f fd ["self","cuts"] (dr CC C 3):=by
 have sc:=rU;walk_at "f"
 ·obtain⟨a,B,lp,M,v,p,r,c,rfl,y,z,G,D,t7,q⟩:=h
  refine⟨_,(ag (aH (bA (ac (bA (ac (b6 (ac (ke zJa (hr.mono nofun) aL (am 1) (ac (aI ya6 (hr.mono nofun) rfl aL (ac (bw (am 0) rfl) ad)) ad)) (ac (bw (am 0) rfl) ad))) ad)) ad)))),?_⟩;ext;obtain⟨L,g,x,l3,I,hr1⟩:=id z;refine⟨L,_,I,rfl,C,B,_,y,cl,na.2,_,rfl,v.t.toNat,?_,⋯,?_⟩
  ·rw[LR D]
  have u:dM v.t.toNat<8:=(by decide:∀t,t<8->dM t<8) _ ⋯;refine⟨M,p,r,c,dM v.t.toNat,rfl,z,G,u,λH1 e=>⟨C,B,_,e _ _ y,cl,na.1,_,rfl,av nofun,λj n=>⟨av nofun,λg d=>⟨av nofun,λx b=>?_⟩⟩⟩⟩;generalize i:aG H1 j _=H2 at d b ⊢;obtain⟨m,(e2:a_ H2 j (bo (turned p (dM v.t.toNat)),v.o1))⟩:=jR n i;generalize i:aG H2 g _=H3 at b ⊢;obtain⟨l,J⟩:=jR d i;have k:=ai (o:=.lst [V.ref g]) b;exact q x _ (e.free (m.free (l.free b))) ⟨[g],af,aM.one ⟨e.free (m.free d),[j],k _ _ J,aM.one ((e2.up l).up k)⟩⟩ (e.trans (m.trans (l.trans k)))
def nU(R:RC)(CC:Addr):List (Addr×Sp):=[(R.cc,dr CC R.cc 0),(R.cb,dr CC R.cb 1),(R.ca,dr CC R.ca 2),(R.ct,dr CC R.ct 3)]
theorem AR{R:RC}{CC:Addr}{k cu:Addr}{Q:VK}(hk:k<4)(ra:gb R H k a v)(hC:eF CC H cu p)(hp:iS p r c)(t0:0<=v.t)(t7:v.t<=7)(q:∀l H',H l=none->kG (pd H) H' l (bP (k,v) p)->aA H H'->Q (.ref l) H') :
  ∃o∈nU R CC,∃dx fs,H a=some (.ins o.1 dx fs)/\fs.lookup ("ways":Str)=none/\o.2 [.ref a,.ref cu] H Q E:=by
 obtain⟨dx,l,h1,h2⟩:=ra;rcases gS hk with rfl | rfl | rfl | rfl
 ·exact⟨(R.cc,dr CC R.cc 0),by simp[nU],dx,_,h1,rfl,a,dx,l,cu,v,p,r,c,rfl,h1,hC,hp,t0,t7,q⟩
 ·exact⟨(R.cb,dr CC R.cb 1),by simp[nU],dx,_,h1,rfl,a,dx,l,cu,v,p,r,c,rfl,h1,hC,hp,t0,t7,q⟩
 ·exact⟨(R.ca,dr CC R.ca 2),by simp[nU],dx,_,h1,rfl,a,dx,l,cu,v,p,r,c,rfl,h1,hC,hp,t0,t7,q⟩
 ·exact⟨(R.ct,dr CC R.ct 3),by simp[nU],dx,_,h1,rfl,a,dx,l,cu,v,p,r,c,rfl,h1,hC,hp,t0,t7,q⟩
abbrev l6:Stmt:=fC 29
def vb:Option Int->V
 |some c=>.int c
 |none=>.non
inductive oV(R:RC)(vs:List V)(H:Hp)(Q:VK)(_E:XK):Prop
 |mk (a lw d:Addr) (k:Nat) (v:RV) (way:List Ky) (T:Ky->Option Int) (_:vs=[.ref a,.ref lw,.ref d]) (_:gb R H k a v) (_:kf H lw way) (_:iI H d T) (_:Q (vb (bU T v.c way)) H)
theorem xL:aB ["rule","way","told","cost","key"] ["rule","way","told"] (ak l6):=by walk_at "c"
theorem xa{f:Addr}(F:dj K "cost_by" "cost_by" l6 f fd)(nb:NB mg)(rk:lW K R):↑aS 1 f fd ["rule","way","told"] (oV R):=by
 have sc:=xL;walk_at "f"
 ·obtain⟨a,J,d,k,v,e,T,rfl,⟨rdx,I,n,_⟩,⟨bs,C,D⟩,O,q⟩:=h
  have B:=hr.units;refine⟨_,(ae (q01 3 sc.nd (bw (am 0) rfl))
   (ae (bd PassesOwn.never rfl (aW (am 1)) (q02 4 sc.nd)
   (ae (bJ (lI (k_ (LH (LM (by decide:1<=64) _) B) (am 4) (am 2)) (by with_unfolding_all rfl))
   (ag (aH ow))
   aP)
   (ag (q01 3 sc.nd (aE (bD.m0 bW) (am 3) (kx (LH (LM (by decide:1<=64) _) B) (am 2) (am 4) (λ_ _=>rfl)))))))
   (ag (aH (am 3))))),?_⟩
  symm;refine⟨_,_,_,n,(rk.icls k).cl,(rk.name k).2.1,_,(jd I v k).2.1,h1 _ _ ?_⟩;grind;refine⟨⟨_,aR.of C⟩,?_⟩;refine bL (xs:=bs.map V.ref) (λi σ m=>m=H/\i<=e.length/\∃(c:Int) (x:Option V),bU T v.c e=bU T c (e.drop i)/\σ=[some (V.ref a),some (V.ref J),some (V.ref d),some (V.int c),x]) ⟨rfl,Lo _,v.c,_,rfl,rfl⟩ (λi σ m _ h=>by rw[h.1];exact aR.of C) ?_ ?_
  ·rintro i x σ m z ⟨rfl,L,c,G,j,rfl⟩
   rw[K5]at z;obtain⟨b,y,rfl⟩:=Lr.mp z;obtain⟨g,p,o⟩:=D.get y;have ol:=(K1.mp p).1;have M:e.drop i=g::e.drop (i+1):=by
    rw[q0T ol];rw[K0 ol]at p;cases p;rfl
   rw[M,show bU T c (g::e.drop (i+1))=(match T g with | none=>none | some v=>bU T (c+v) (e.drop (i+1))) from rfl]at j;have r:=O.get o;symm;refine⟨_,r,?_⟩;cases l:T g with
   |none=>
    rw[l]at j;rw[q07 (by rfl)];rw[show bU T v.c e=none from j]at q;exact q
   |some u=>
    rw[l]at j r;rw[q06 (by simp)];refine h1 _ _ ?_;clear h1;ext;exact⟨_,r,_,rfl,ol,_,j,rfl⟩
  ·rintro σ m ⟨rfl,L,c,G,j,rfl⟩
   refine h1 _ _ ?_;ext;rw[K3,D.1,List.drop_length]at j;rw[j]at q;exact q
def xg(T:Ky->Option Int)(p:aJ)(n:Nat)(r:Nat×RV):List (Int×Nat×List Ky):=(bP r p).filterMap λw=>(bU T r.2.c w).map λc=>(c,n,w)
def cK(T:Ky->Option Int)(rs:Yaa)(p:aJ)(n:Nat):List (Int×Nat×List Ky):=match rs[n]? with
 |none=>[]
 |some r=>xg T p n r
def sh(H:Hp)(b:Addr)(y:Int×Nat×List Ky):Prop:=∃lw,H b=some (.tup [.int y.1,.int (y.2.1:Int),.ref lw])/\kf H lw y.2.2
def iU(l:Addr)(H:Hp)(b:Addr)(y:Int×Nat×List Ky):Prop:=∃lw,lw≠l/\H b=some (.tup [.int y.1,.int (y.2.1:Int),.ref lw])/\kf H lw y.2.2
theorem iU.up(h:iU l H b y)(s:aA H H'):iU l H' b y:=let ⟨lw,h0,h1,h2⟩:=h;⟨lw,h0,s _ _ h1,uf h2 s⟩
theorem x_(h:kf H a y)(hl:H l=some (.lst xs))(ne:a≠l):kf (aG H l o) a y:=by
 obtain⟨bs,h1,h2⟩:=h;exact⟨bs,by rw[aq ne];exact h1,h2.mono λb k _ _ q=>q.put hl⟩
theorem iU.put(h:iU l H b y)(hl:H l=some (.lst xs)):iU l (aG H l o) b y:=by
 obtain⟨c,a,h1,h2⟩:=h;exact⟨c,a,by rw[aq (λz=>by rw[z,hl]at h1;cases h1)];exact h1,x_ h2 hl a⟩
abbrev n9:Stmt:=fC 30
inductive qQ(R:RC)(CG CC:Addr)(vs:List V)(H:Hp)(Q:VK)(_E:XK):Prop
 |mk (g dx ln cu d:Addr) (sg st:LY) (as:L5) (rs:Yaa) (ns:LY) (p:aJ) (r c:Nat) (T:Ky->Option Int) (_:vs=[.ref g,.ref ln,.ref cu,.ref d]) (_:c7 R H CG dx g sg st as rs) (_:(∀r∈rs,kJ r)) (_:H ln=some (.lst (v4 ns))) (_:(∀n∈ns,n<rs.length)) (_:ns.length<=100) (_:eF CC H cu p) (_:iS p r c) (_:iI H d T) (_:∀l H',H l=none->kG sh H' l (ns.flatMap (cK T rs p))->aA H H'->Q (.ref l) H')
theorem Ax:aB ["grammar","numbers","cuts","told","found","number","rule","way","cost"] ["grammar","numbers","cuts","told"] (ak n9):=by walk_at "c"
theorem qY{r:Nat×RV}(h4:r.1<4)(hp:iS p a c):(bP r p).length<=6:=by
 obtain⟨k,v⟩:=r;have:=hp.r6;have:=hp.c6;rcases gS h4 with h | h | h | h<;>(simp only at h;subst h)
 ·show(if bo p=v.sg then[[]] else[]).length<=6
  split<;>simp
 ·show((bH true p (p.headD []).length).map _).length<=6
  unfold bH;rw[K3,K3,q0J,bp hp.rc hp.r0];omega
 ·show((bH false p p.length).map _).length<=6
  unfold bH;rw[K3,K3,q0J,hp.rc.1];omega
 ·show([[_]]:List (List Ky)).length<=6
  simp
theorem zW{α β:Type}(f:α->List β){xs:List α}{i:Nat}{x:α}(h:xs[i]?=some x):(xs.take (i+1)).flatMap f=(xs.take i).flatMap f++f x:=by
 rw[q0E,h,List.flatMap_append];simp
theorem zA{f:Addr}(F:dj K "coming" "coming" n9 f fd)(nb:NB mg)(yal:↑gI 1 CG "rule" ["self","k"] (eN R CG))(yaH:↑xU 5 "ways" (nU R CC))(yaE:↑dl 1 "cost_by" ["rule","way","told"] (oV R)):↑aS 6 f fd ["grammar","numbers","cuts","told"] (qQ R CG CC):=by
 have sc:=Ax;walk_at "f"
 ·obtain⟨g,dx,ln,cu,d,sg,st,as,L,ns,p,r,c,T,rfl,hG,hg,b1,c1,hn100,hC,hp,hT,q⟩:=h
  have hu:=hr.units;refine⟨_,(ae (q01 4 sc.nd (bA ad))
   (ae (bd PassesOwn.never rfl (aW (am 1)) (q02 5 sc.nd)
   (ae (q01 6 sc.nd (ke yal (hr.mono nofun) aL (am 0) (ac (am 5) ad)))
   (ag (bd PassesOwn.never rfl (aW (DI yaH (hr.mono nofun) aL (am 6) (ac (am 2) ad))) (q02 7 sc.nd)
   (ae (q01 8 sc.nd (aI yaE (hr.mono nofun) rfl aL (ac (am 6) (ac (am 7) (ac (am 3) ad)))))
   (ag (bJ (aU DW (am 8) ow (aX _))
   (ag (bE (gt PySem.F.plainAttrs_list PySem.F.slot_list_append PySem.F.type_list_append dt (am 4) (ac (b6 (ac (am 8) (ac (am 5) (ac (am 7) ad)))) ad))))
   aP)))))))
   (ag (aH (am 4))))),?_⟩
  symm;refine⟨Lo _,λl hl=>h1 _ _ ?_⟩;clear h1;generalize z0:aG H l _=H1;obtain⟨s1,e1⟩:=jR hl z0;symm;refine⟨⟨_,aR.of (s1 _ _ b1)⟩,?_⟩;refine bL (xs:=v4 ns) (λi σ Y=>aA H Y/\i<=ns.length/\(∃bs:List Addr,Y l=some (.lst (bs.map V.ref))/\aM (iU l) Y bs ((ns.take i).flatMap (cK T L p))/\bs.length<=6*i)/\∃x1 x2 x3 x4,σ=[some (V.ref g),some (V.ref ln),some (V.ref cu),some (V.ref d),some (V.ref l),x1,x2,x3,x4]) ⟨s1,Lo _,⟨[],e1,aM.nil,Lo _⟩,_,_,_,_,rfl⟩ (λi σ Y _ h=>aR.of (h.1 _ _ b1)) ?_ ?_
  ·rintro i x σ Y hx ⟨sm,_,⟨bs,U,hA,c2⟩,x1,x2,x3,x4,rfl⟩
   rw[v4,K5]at hx;obtain⟨n,hn,rfl⟩:=Lr.mp hx;have hi:=(K1.mp hn).1;have a8:=c1 n (K6 hn);obtain⟨k,D⟩:∃k,L[n]?=some k:=⟨_,K0 a8⟩;have C:=hg k (K6 D);have b5:=hG.up sm;obtain⟨lk,pn,t0,ha,hkk,a5,hN,hmm⟩:=id b5;obtain⟨b,S⟩:∃b,as[n]?=some b:=⟨_,K0 (by rw[a5.1];exact a8)⟩;have c0:=a5.2 n b k S D;rw[zW _ hn,show cK T L p n=xg T p n k by unfold cK;rw[D]];symm;refine⟨dx,_,ha,rfl,g,dx,sg,st,as,L,n,b,rfl,b5,S,h1 _ _ ?_⟩;clear h1;ext;refine AR C.k4 c0 (hC.up sm) hp C.good.t0 C.good.t7 λlw H2 b0 hW s2=>?_;obtain⟨ws,a2,b4⟩:=hW;have hwl:=qY C.k4 hp;refine⟨lw,rfl,⟨_,aR.of a2⟩,?_⟩;have a0:=sm.trans s2;have hT2:=hT.up a0;have a7:gb R H k.1 b k.2:=let ⟨_,_,_,_,_,hrs0,_,_⟩:=hG;hrs0.2 n b k S D
   have c3:=s2 _ _ U;have a9:lw≠l:=λe=>by rw[e,U]at b0;cases b0
   have h0:aM (iU l) H2 bs ((ns.take i).flatMap (cK T L p)++((bP k p).take 0).filterMap λw=>(bU T k.2.c w).map λc=>(c,n,w)):=by
    show aM (iU l) H2 bs ((ns.take i).flatMap (cK T L p)++[]);rw[Ly];exact hA.mono λb y _ _ h=>h.up s2
   refine bL (xs:=ws.map V.ref) (λj σ J=>aA H J/\J lw=some (.lst (ws.map V.ref))/\aM kf J ws (bP k p)/\(∀a∈ws,a≠l)/\j<=ws.length/\(∃bs:List Addr,J l=some (.lst (bs.map V.ref))/\aM (iU l) J bs ((ns.take i).flatMap (cK T L p)++((bP k p).take j).filterMap λw=>(bU T k.2.c w).map λc=>(c,n,w))/\bs.length<=6*i+j)/\∃x1 x2,σ=[some (V.ref g),some (V.ref ln),some (V.ref cu),some (V.ref d),some (V.ref l),some (V.int (n:Int)),some (V.ref b),x1,x2])
    ⟨a0,a2,b4.mono λ_ _ _ _ h=>h.2,λa ha=>?_,Lo _,⟨bs,c3,h0,⋯⟩,_,_,rfl⟩ (λj σ J _ h=>aR.of h.2.1) ?_ ?_
   ·obtain⟨j,hj⟩:=List.mem_iff_getElem?.mp ha
    obtain⟨y,_,hy⟩:=b4.get hj;exact λe=>by have:=hy.1;rw[e,U]at this;cases this
   ·rintro j x σ J hx ⟨o,O,m,v,_,⟨I,z,B,b2⟩,y1,y2,rfl⟩
    rw[K5]at hx;obtain⟨wa,M,rfl⟩:=Lr.mp hx;obtain⟨u,a4,a1⟩:=m.get M;have hj:=(K1.mp M).1;have hwlen:=m.1;have a6:=a7.up o;symm;refine⟨b,wa,d,k.1,k.2,u,T,rfl,a6,a1,hT.up o,h1 _ _ ?_⟩;clear h1;rw[q0E,a4,List.filterMap_append,<- Lz];ext;cases b3:bU T k.2.c u with
    |none=>
     rw[q06 (λh=>h rfl)];refine⟨o,O,m,v,hj,I,z,?_,⋯⟩;rw[show(some u).toList.filterMap (λw=>(bU T k.2.c w).map λc=>(c,n,w))=[] by simp[b3],Ly];exact B
    |some cst=>
     rw[q07 (λh=>nomatch h)];refine⟨.inl ⟨rfl,_,aR.of z⟩,av nofun,λtp b8=>?_⟩;generalize z0:aG J tp _=H4;obtain⟨Z,(e4:H4 tp=some (.tup [.int cst,.int (n:Int),.ref wa]))⟩:=jR b8 z0;have G:=Z _ _ z;have a3:=v wa (K6 M);refine⟨_,G,by rw[K3];exact bj ⋯,cO (o.trans Z) hl,by rw[aq a9];exact Z _ _ O,m.mono λb y U _ h=>x_ (uf h Z) G (v b U),v,hj,I++[tp],by rw[af,Lc];rfl,?_,by rw[Lm];simp;omega⟩;rw[show(some u).toList.filterMap (λw=>(bU T k.2.c w).map λc=>(c,n,w))=[(cst,n,u)] by simp[b3]];exact(B.mono λb y _ _ h=>(h.up Z).put G).snoc (iU.put ⟨wa,a3,e4,uf a1 Z⟩ G)
   ·rintro σ J ⟨o,O,m,v,_,⟨I,z,B,b2⟩,y1,y2,rfl⟩
    rw[K3,m.1,LB]at B;rw[K3]at b2;exact⟨o,hi,⟨I,z,B,by have:=m.1;omega⟩,_,_,_,_,rfl⟩
  ·rintro σ Y ⟨sm,_,⟨bs,U,hA,c2⟩,x1,x2,x3,x4,rfl⟩
   refine h1 _ _ ?_;ext;rw[v4,K3,LB]at hA;exact q l Y hl ⟨bs,U,hA.mono λb y _ _ h=>let ⟨lw,_,h1,h2⟩:=h;⟨lw,h1,h2⟩⟩ sm
def Gm:HO->Prop
 | .dT _=>True
 |_=>False
def Kp(H H':Hp):Prop:=∀x o,¬ Gm o->H x=some o->H' x=some o
theorem Kp.lst{H H':Hp}(s:Kp H H'){a:Addr}{xs:List V}(h:H a=some (.lst xs)):H' a=some (.lst xs):=s _ _ id h
theorem Kp.tup{H H':Hp}(s:Kp H H'){a:Addr}{xs:List V}(h:H a=some (.tup xs)):H' a=some (.tup xs):=s _ _ id h
theorem Kp.ins{H H':Hp}(s:Kp H H'){a C dx:Addr}{fs:List (Str×V)}(h:H a=some (.ins C dx fs)):H' a=some (.ins C dx fs):=s _ _ id h
theorem Kp.dK{H H':Hp}(s:Kp H H'){a:Addr}{fs:List (cP×V)}(h:H a=some (.dK fs)):H' a=some (.dK fs):=s _ _ id h
theorem bI.kp(h:bI R H as rs)(s:Kp H H'):bI R H' as rs:=by
 refine⟨h.1,λi a r c b=>?_⟩;obtain⟨d,l,h1,h2⟩:=h.2 i a r c b;exact⟨d,l,s.ins h1,s.lst h2⟩
theorem c7.kp{st:LY}(g:c7 R H C dx a sg st as rs)(s:Kp H H'):c7 R H' C dx a sg st as rs:=by
 obtain⟨d,c,t,h1,h2,j,b,i⟩:=g;exact⟨d,c,t,s.ins h1,s.lst h2,j.kp s,⟨s.dK b.dict,λx e=>s.lst (b.list x e),b.apart⟩,i⟩
theorem aT.kp(s:aT d H H')(hd:H d=some (.dT m)):Kp H H':=λx o h e=>s x o (λz=>by rw[z,hd]at e;cases e;exact h trivial) e
theorem BP{β:Type}{A:Hp->Addr->β->Prop}(u:∀{b:Addr} {y:β},A H b y->A H' b y)(s:Kp H H'){l:Addr}{ys:List β}(h:kG A H l ys):kG A H' l ys:=by
 obtain⟨bs,h1,h2⟩:=h;exact⟨bs,s.lst h1,h2.mono λb y _ _ q=>u q⟩
theorem a_.kp(h:a_ H a k)(s:Kp H H'):a_ H' a k:=s.tup h
theorem eF.kp(h:eF CC H c p)(s:Kp H H'):eF CC H' c p:=by
 obtain⟨i,a,b,d,h1,h2,g,e⟩:=h;exact⟨i,a,b,d,s.ins h1,s.lst h2,BP (A:=a_) (λq=>q.kp s) s g,BP (A:=a_) (λq=>q.kp s) s e⟩
theorem sh.kp(h:sh H b y)(s:Kp H H'):sh H' b y:=let ⟨lw,h1,h2⟩:=h;⟨lw,s.tup h1,BP (A:=a_) (λq=>q.kp s) s h2⟩
abbrev Tb:=List (Ky×Int)
def pU(e:Ky×Int):List cP×V:=(jX e.1,.int e.2)
def aK(tb:Tb)(k:Ky):Option Int:=(tb.find? λe=>decide (e.1=k)).map (·.2)
def qv(tb:Tb)(k:Ky)(v:Int):Tb:=if(aK tb k).isSome=true then tb.map (λe=>if e.1=k then(e.1,v) else e) else tb++[(k,v)]
theorem dP(e:Ky×Int)(tb:Tb)(k:Ky):aK (e::tb) k=if e.1=k then some e.2 else aK tb k:=by
 unfold aK;rw[List.find?_cons]
 by_cases h:e.1=k
 ·simp[h]
 ·simp[h]
theorem va(tb:Tb)(k:Ky):dF (tb.map pU) (jX k)=(aK tb k).map V.int:=by
 induction tb with
 |nil=>rfl
 |cons e tb ih=>
  rw[Lu,dP]
  by_cases h:e.1=k
  ·rw[gw (show(pU e).1=jX k from q0R jX h),q07 h];rfl
  ·rw[gq (λq=>h (vy q)),q06 h];exact ih
theorem Cf(tb:Tb)(k:Ky)(v:Int):du (tb.map pU) (jX k) (.int v)=(qv tb k v).map pU:=by
 unfold du qv;rw[gz,va,Option.isSome_map]
 split
 ·rw[Le,Le]
  refine q0K λe _=>?_;show(if jX e.1=jX k then(jX e.1,V.int v) else pU e)=pU (if e.1=k then(e.1,v) else e)
  by_cases h:e.1=k
  ·rw[q07 (q0R jX h),q07 h];rfl
  ·rw[q06 λq=>h (vy q),q06 h]
 ·rw[Lc];rfl
theorem vH(k:Ky)(v:Int)(k':Ky):∀tb:Tb,aK (tb.map λe=>if e.1=k then(e.1,v) else e) k'=if k'=k then(aK tb k).map λ_=>v else aK tb k'
 | []=>by simp[aK]
 |e::tb=>by
  rw[Lu,dP,dP,dP,vH k v k' tb]
  by_cases h:e.1=k
  ·by_cases h':k'=k
   ·simp[h,h']
   ·have:¬ k=k':=λq=>h' q.symm
    simp[h,h',this]
  ·by_cases h':k'=k
   ·subst h';simp[h]
   ·simp[h,h']
theorem rm(k:Ky)(v:Int)(k':Ky):∀tb:Tb,aK (tb++[(k,v)]) k'=match aK tb k' with
  |some u=>some u
  |none=>if k=k' then some v else none
 | []=>by simp[aK]
 |e::tb=>by
  rw[List.cons_append,dP,dP,rm k v k' tb]
  by_cases h:e.1=k'
  ·simp[h]
  ·simp[h]
theorem yM(tb:Tb)(k:Ky)(v:Int)(k':Ky):aK (qv tb k v) k'=if k'=k then some v else aK tb k':=by
 unfold qv
 split
 ·rename_i h
  rw[vH];obtain⟨u,hu⟩:=Option.isSome_iff_exists.mp h;rw[hu];rfl
 ·rename_i h
  rw[rm]
  by_cases e:k'=k
  ·subst e
   have:aK tb k'=none:=by simpa using h
   rw[this,q07 rfl]
  ·rw[q06 e,q06 λq=>e q.symm]
   cases aK tb k'<;>rfl
theorem AV(h:aK tb k=none):k∉tb.map (·.1):=by
 intro a;obtain⟨e,b,rfl⟩:=LK.mp a;unfold aK at h;rw[Option.map_eq_none_iff,List.find?_eq_none]at h;exact h e b (by simp)
theorem BC{tb:Tb}(nd:(tb.map (·.1)).Nodup){k:Ky}{v:Int}(h:(k,v)∈tb):aK tb k=some v:=by
 induction tb with
 |nil=>exact nomatch h
 |cons e tb ih=>
  rw[Lu,q0c]at nd;rw[dP];rcases Lf.mp h with rfl | h
  ·rw[q07 rfl]
  ·rw[q06 λq=>nd.1 (by rw[q];exact LK.mpr ⟨_,h,rfl⟩)]
   exact ih nd.2 h
theorem qG(tb:Tb)(k:Ky)(v:Int):(qv tb k v).map (·.1)=if(aK tb k).isSome=true then tb.map (·.1) else tb.map (·.1)++[k]:=by
 unfold qv
 split
 ·rw[Le]
  refine q0K λe _=>?_;show(if e.1=k then(e.1,v) else e).1=e.1
  split<;>rfl
 ·rw[Lc];rfl
theorem D9{tb:Tb}(nd:(tb.map (·.1)).Nodup):((qv tb k v).map (·.1)).Nodup:=by
 rw[qG]
 split
 ·exact nd
 ·rename_i h
  rw[List.nodup_append];refine⟨nd,by simp,λa ha b hb e=>?_⟩;rw[K4.mp hb]at e;exact AV (by simpa using h) (e▸ha)
theorem Bv(tb:Tb)(k:Ky)(v:Int):(qv tb k v).length=if(aK tb k).isSome=true then tb.length else tb.length+1:=by
 have:=q0R List.length (qG tb k v);rw[K3]at this;rw[this]
 split
 ·rw[K3]
 ·rw[Lm,K3];rfl
def b_(H:Hp)(d:Addr)(tb:Tb):Prop:=H d=some (.dT (tb.map pU))
theorem b_.told(h:b_ H d tb):iI H d (aK tb):=⟨_,h,λk=>va tb k⟩
theorem b_.up(h:b_ H d tb)(s:aA H H'):b_ H' d tb:=s _ _ h
def gN(tb:Tb)(k:Ky)(v:Int):Bool:=match aK tb k with
 |some u=>decide (v<u)
 |none=>true
def dA(tb:Tb)(k:Ky)(v:Int):Tb:=if gN tb k v=true then qv tb k v else tb
def uC(tb tb':Tb):Prop:=∀k u,aK tb k=some u->∃u',u'<=u/\aK tb' k=some u'
theorem uC.refl(tb:Tb):uC tb tb:=λk u h=>⟨u,Int.le_refl _,h⟩
theorem uC.trans(h1:uC a b)(h2:uC b c):uC a c:=λk u h=>by
 obtain⟨u1,l1,e1⟩:=h1 k u h;obtain⟨u2,l2,e2⟩:=h2 k u1 e1;exact⟨u2,Int.le_trans l2 l1,e2⟩
theorem ja(tb:Tb)(k:Ky)(v:Int)(k':Ky):aK (dA tb k v) k'=if k'=k/\gN tb k v=true then some v else aK tb k':=by
 unfold dA
 by_cases h:gN tb k v=true
 ·rw[q07 h,yM]
  by_cases e:k'=k
  ·rw[q07 e,q07 ⟨e,h⟩]
  ·rw[q06 e,q06 λq=>e q.1]
 ·rw[q06 h,q06 λq=>h q.2]
theorem tR{k:Ky}{k':Ky}(h:k'≠k):aK (dA tb k v) k'=aK tb k':=by rw[ja,q06 λq=>h q.1]
theorem ye(tb:Tb)(k:Ky)(v:Int):∃v',v'<=v/\aK (dA tb k v) k=some v':=by
 rw[ja];cases h:gN tb k v with
 |true=>exact⟨v,Int.le_refl _,by simp⟩
 |false=>
  unfold gN at h;cases a:aK tb k with
  |none=>rw[a]at h;cases h
  |some u=>
   rw[a]at h;have:¬ v<u:=by simpa using h
   exact⟨u,⋯,by simp⟩
theorem xh(tb:Tb)(k:Ky)(v:Int):uC tb (dA tb k v):=by
 intro b u a;rw[ja]
 by_cases e:b=k/\gN tb k v=true
 ·rw[q07 e]
  obtain⟨rfl,h⟩:=e;unfold gN at h;rw[a]at h;have:v<u:=by simpa using h
  exact⟨v,⋯,rfl⟩
 ·rw[q06 e];exact⟨u,Int.le_refl _,a⟩
theorem tK{k':Ky}{u:Int}(h:aK (dA tb k v) k'=some u):aK tb k'=some u\/k'=k/\u=v:=by
 rw[ja]at h
 split at h
 ·rename_i e
  exact .inr ⟨e.1,by injection h with h;exact h.symm⟩
 ·exact .inl h
theorem BV{tb:Tb}(nd:(tb.map (·.1)).Nodup):((dA tb k v).map (·.1)).Nodup:=by
 unfold dA
 split
 ·exact D9 nd
 ·exact nd
theorem yI(tb:Tb)(k:Ky)(v:Int):(dA tb k v).length<=if(aK tb k).isSome=true then tb.length else tb.length+1:=by
 unfold dA
 split
 ·rw[Bv];exact Ln _
 ·split<;>omega
def xE(p:aJ):Prop:=p≠[]/\bB p
theorem xE.inj(h:xE p)(h':xE q)(e:bo p=bo q):p=q:=SpM.glue_inj 47 h.1 h'.1 h.2 h'.2 e
inductive Dv(rs:Yaa):Ky->Int->Prop
 |leaf {r:Nat×RV} {p:aJ}:r∈rs->xE p->[]∈bP r p->Dv rs (bo p,r.2.n) r.2.c
 |one {r:Nat×RV} {p:aJ} {k:Ky} {a:Int}:r∈rs->xE p->[k]∈bP r p->Dv rs k a->Dv rs (bo p,r.2.n) (r.2.c+a)
 |two {r:Nat×RV} {p:aJ} {k1 k2:Ky} {a b:Int}:r∈rs->xE p->[k1,k2]∈bP r p->Dv rs k1 a->Dv rs k2 b->Dv rs (bo p,r.2.n) (r.2.c+a+b)
theorem rH{w:List Ky}(h:w∈bP r p):w=[]\/(∃k,w=[k])\/∃k1 k2,w=[k1,k2]:=by
 unfold bP at h
 split at h
 ·split at h
  ·exact .inl (K4.mp h)
  ·exact nomatch h
 ·obtain⟨k,_,rfl⟩:=LK.mp h
  exact .inr (.inr ⟨_,_,rfl⟩)
 ·obtain⟨k,_,rfl⟩:=LK.mp h
  exact .inr (.inr ⟨_,_,rfl⟩)
 ·exact .inr (.inl ⟨_,K4.mp h⟩)
theorem nX{v:Int}{k:Ky}(h:bU T c [k]=some v):∃a,T k=some a/\v=c+a:=by
 unfold bU at h;cases b:T k with
 |none=>rw[b]at h;cases h
 |some a=>rw[b]at h;injection h with h;exact⟨a,rfl,h.symm⟩
theorem vp{v:Int}{k1 k2:Ky}(h:bU T c [k1,k2]=some v):∃a b,T k1=some a/\T k2=some b/\v=c+a+b:=by
 unfold bU at h;cases d:T k1 with
 |none=>rw[d]at h;cases h
 |some a=>
  rw[d]at h;obtain⟨b,g,e⟩:=nX h;exact⟨a,b,rfl,g,e⟩
theorem Ej{rs:Yaa}{r:Nat×RV}{w:List Ky}{v:Int}(hr:r∈rs)(hp:xE p)(hw:w∈bP r p)(hc:bU T r.2.c w=some v)(hT:∀k∈w,∀u,T k=some u->Dv rs k u):Dv rs (bo p,r.2.n) v:=by
 rcases rH hw with rfl | ⟨k,rfl⟩ | ⟨g,e,rfl⟩
 ·injection hc with hc;rw[<- hc];exact .leaf hr hp hw
 ·obtain⟨a,d,rfl⟩:=nX hc
  exact .one hr hp hw (hT k (by simp) a d)
 ·obtain⟨a,b,d,i,rfl⟩:=vp hc
  exact .two hr hp hw (hT g (by simp) a d) (hT e (by simp) b i)
theorem i5{T T':Ky->Option Int}:∀{w:List Ky} {c:Int},(∀k∈w,T k=T' k)->bU T c w=bU T' c w
 | [],c,_=>rfl
 |k::w,c,h=>by
  show(match T k with | none=>none | some v=>bU T (c+v) w)=(match T' k with | none=>none | some v=>bU T' (c+v) w);rw[h k (q0B ..)];cases T' k with
  |none=>rfl
  |some v=>exact i5 λk hk=>h k (Lg _ hk)
def HI(rs:Yaa)(T:Ky->Option Int)(q:aJ):Prop:=∀r∈rs,∀w∈bP r q,∀v,bU T r.2.c w=some v->∃v',v'<=v/\T (bo q,r.2.n)=some v'
set_option tactic.hygienic true in
set_option tactic.hygienic true in
theorem rA(hq:rect q a c)(a0:0<a)(c0:0<c){w:List Ky}(hw:w∈bP r q){k:Ky}(hk:k∈w) :
  (∃t l b x,t<b/\b<=a/\l<x/\x<=c/\k.1=bo (cut q t l b x)/\bg (cut q t l b x)<bg q/\r.1<3)\/(3<=r.1/\w=[(bo (turned q (dM r.2.t.toNat)),r.2.o1)]):=by
 have cell:∀{t l b x:Nat},t<b->b<=a->l<x->x<=c->(b-t<a/\x-l=c\/b-t=a/\x-l<c)->bg (cut q t l b x)<bg q:=by
  intro t l b x h1 h2 h3 h4 h5;have hc:=cz hq h1 h2 h3 h4;unfold bg;rw[hc.1,bp hc ⋯,hq.1,bp hq a0];rcases h5 with⟨h,e⟩ | ⟨e,h⟩
  ·rw[e];exact Nat.mul_lt_mul_of_pos_right h c0
  ·rw[e];exact Nat.mul_lt_mul_of_pos_left h a0
 unfold bP at hw
 split at hw
 ·split at hw
  ·rw[K4.mp hw]at hk;exact nomatch hk
  ·exact nomatch hw
 ·rename_i hr
  obtain⟨k0,h0,rfl⟩:=LK.mp hw;unfold bH at h0;obtain⟨j,hj,rfl⟩:=LK.mp h0;have hj:=List.mem_range.mp hj;rw[bp hq a0]at hj
  left
  rcases Lf.mp hk with rfl | hk
  ·exact⟨0,0,a,j+1,a0,Ln _,⋯,⋯,q0R bo (qx hq),cell a0 (Ln _) ⋯ ⋯ (.inr ⟨⋯,⋯⟩),⋯⟩
  ·rw[K4.mp hk]
   exact⟨0,j+1,a,c,a0,Ln _,⋯,Ln _,q0R bo (rF hq),cell a0 (Ln _) ⋯ (Ln _) (.inr ⟨⋯,⋯⟩),⋯⟩
 ·rename_i hr
  obtain⟨k0,h0,rfl⟩:=LK.mp hw;unfold bH at h0;obtain⟨j,hj,rfl⟩:=LK.mp h0;have hj:=List.mem_range.mp hj;rw[hq.1]at hj
  left
  rcases Lf.mp hk with rfl | hk
  ·exact⟨0,0,j+1,c,⋯,⋯,c0,Ln _,q0R bo (qC hq),cell ⋯ ⋯ c0 (Ln _) (.inl ⟨⋯,⋯⟩),⋯⟩
  ·rw[K4.mp hk]
   exact⟨j+1,0,a,c,⋯,Ln _,c0,Ln _,q0R bo (rN hq),cell ⋯ (Ln _) c0 (Ln _) (.inl ⟨⋯,⋯⟩),⋯⟩
 ·rename_i x h0 h1 h2
  right
  refine⟨?_,K4.mp hw⟩;rcases hh:r.1 with _ | _ | _ | n
  ·exact q0Q hh h0
  ·exact q0Q hh h1
  ·exact q0Q hh h2
  ·omega
theorem d9(hp:rect p r c)(hn:bB p)(h:aY p r c q):xE q:=by
 obtain⟨r',c',h1,h2,_⟩:=h.rect hp;exact⟨λe=>by rw[e]at h1;have:=h1.1;simp at this;omega,h.ns hp hn⟩
theorem ky(hp:rect p r c)(h:aY p r c q){x:Nat×RV}(t0:0<=x.2.t)(t7:x.2.t<=7){w:List Ky}(hw:w∈bP x q){k:Ky}(hk:k∈w):∃q',aY p r c q'/\k.1=bo q'/\(bg q'<bg q\/3<=x.1/\q'=turned q (dM x.2.t.toNat)):=by
 obtain⟨a,b,h1,h2,n,_⟩:=h.rect hp;rcases rA h1 h2 n hw hk with⟨t,l,b,y,d,m,j,i,g,e,_⟩ | ⟨d,rfl⟩
 ·exact⟨_,h.cut hp h1 d m j i,g,.inl e⟩
 ·rw[K4.mp hk]
  exact⟨_,h.turned hp (kO ⋯),rfl,.inr ⟨d,rfl⟩⟩
theorem uR{rs:Yaa}(hp:rect p r c)(hn:bB p)(hg:∀x∈rs,0<=x.2.t/\x.2.t<=7)(hC:∀q,aY p r c q->HI rs T q){k:Ky}{v:Int}(h:Dv rs k v):∀q,aY p r c q->k.1=bo q->∃v',v'<=v/\T k=some v':=by
 induction h with
 | @leaf x q0 hr ho hw=>
  intro q d e;have e:=ho.inj (d9 hp hn d) e;subst e;exact hC _ d x hr _ hw _ rfl
 | @one x q0 k a hr ho hw _ ih=>
  intro q d e;have e:=ho.inj (d9 hp hn d) e;subst e;obtain⟨g,h1,j,_⟩:=ky hp d (hg x hr).1 (hg x hr).2 hw (k:=k) (by simp);obtain⟨m,o,i⟩:=ih g h1 j;obtain⟨v',u,l⟩:=hC _ d x hr _ hw (x.2.c+m) (by unfold bU;rw[i];rfl);exact⟨v',⋯,l⟩
 | @two x q0 k1 k2 a b hr ho hw _ _ ih1 ih2=>
  intro q d e;have e:=ho.inj (d9 hp hn d) e;subst e;obtain⟨g,h1,j,_⟩:=ky hp d (hg x hr).1 (hg x hr).2 hw (k:=k1) (by simp);obtain⟨n,h2,y,_⟩:=ky hp d (hg x hr).1 (hg x hr).2 hw (k:=k2) (by simp);obtain⟨m,o,i⟩:=ih1 g h1 j;obtain⟨z,lb,w⟩:=ih2 n h2 y;obtain⟨v',u,l⟩:=hC _ d x hr _ hw (x.2.c+m+z) (by unfold bU;rw[i];show bU T _ [k2]=_;unfold bU;rw[w];rfl);exact⟨v',⋯,l⟩
def CK(q:aJ)(ns:List (List Nat)):List Ky:=(List.range 8).flatMap λt=>ns.map λn=>(bo (turned q t),n)
theorem jP{ns:List (List Nat)}{k:Ky}:k∈CK q ns↔∃t,t<8/\∃n,n∈ns/\k=(bo (turned q t),n):=by
 unfold CK;simp only[List.mem_flatMap,List.mem_range,LK]
 constructor
 ·rintro⟨t,a,n,b,rfl⟩;exact⟨t,a,n,b,rfl⟩
 ·rintro⟨t,a,n,b,rfl⟩;exact⟨t,a,n,b,rfl⟩
theorem sE(q:aJ)(ns:List (List Nat)):(CK q ns).length=8*ns.length:=by
 unfold CK;rw[List.length_flatMap];simp only[K3];show ns.length+(ns.length+(ns.length+(ns.length+(ns.length+(ns.length+(ns.length+(ns.length+0)))))))=_;omega
def gF(q:aJ)(r:Nat×RV)(t:Nat):Ky:=(bo (turned q (after t r.2.t.toNat)),r.2.n)
def B7(trs:Yaa)(q:aJ)(tb:Tb)(k:Ky)(v:Int):Prop:=∀r∈trs,r.2.o1=k.2->∀t,t<8->k.1=bo (turned q t)->∃v',v'<=v+r.2.c/\aK tb (gF q r t)=some v'
theorem B7.le{trs:Yaa}{tb':Tb}(h:B7 trs q tb k v)(l:uC tb tb'):B7 trs q tb' k v:=λr hr e t ht e'=>by
 obtain⟨v1,l1,e1⟩:=h r hr e t ht e';obtain⟨v2,l2,e2⟩:=l _ _ e1;exact⟨v2,Int.le_trans l2 l1,e2⟩
theorem s_{α:Type}{f g:α->Nat}:∀{ks:List α},(∀x∈ks,f x<=g x)->(ks.map f).sum<=(ks.map g).sum
 | [],_=>Ln _
 |k::ks,h=>by
  have h1:=h k (q0B ..);have h2:=s_ (ks:=ks) λx hx=>h x (Lg _ hx);rw[Lu,Lu,List.sum_cons,List.sum_cons];omega
theorem tF{α:Type}{f g:α->Nat}:∀{ks:List α} {x:α},(∀x∈ks,f x<=g x)->x∈ks->f x<g x->(ks.map f).sum+1<=(ks.map g).sum
 | [],_,_,h,_=>nomatch h
 |k::ks,x,h,hx,hl=>by
  have h1:=h k (q0B ..);have hr:∀x∈ks,f x<=g x:=λx hx=>h x (Lg _ hx);rw[Lu,Lu,List.sum_cons,List.sum_cons];rcases Lf.mp hx with rfl | hx
  ·have h2:=s_ hr;omega
  ·have h2:=tF hr hx hl;omega
theorem pf{α:Type}{f:α->Nat}{b:Nat}:∀{ks:List α},(∀x∈ks,f x<=b)->(ks.map f).sum<=b*ks.length
 | [],_=>Lo _
 |k::ks,h=>by
  have h1:=h k (q0B ..);have h2:=pf (ks:=ks) λx hx=>h x (Lg _ hx);rw[Lu,List.sum_cons,Lb,Nat.mul_succ];omega
def wB(tb:Tb)(k:Ky):Nat:=match aK tb k with
 |some _=>1
 |none=>0
def DE(B:Nat)(tb:Tb)(k:Ky):Nat:=match aK tb k with
 |some v=>v.toNat
 |none=>B+1
def oS(ks:List Ky)(tb:Tb):Nat:=(ks.map (wB tb)).sum
def FH(ks:List Ky)(B:Nat)(tb:Tb):Nat:=(ks.map (DE B tb)).sum
theorem g5(ks:List Ky)(tb:Tb):oS ks tb<=ks.length:=by
 have:=pf (f:=wB tb) (b:=1) (ks:=ks) λx _=>by unfold wB;split<;>omega
 unfold oS;omega
theorem yt{tb':Tb}(l:uC tb tb')(k:Ky):wB tb k<=wB tb' k:=by
 unfold wB;cases h:aK tb k with
 |none=>exact Lo _
 |some v=>
  obtain⟨v',_,e⟩:=l k v h;rw[e];exact Ln _
theorem Fm{tb':Tb}(l:uC tb tb')(ks:List Ky):oS ks tb<=oS ks tb':=s_ λx _=>yt l x
theorem Dl{tb':Tb}(l:uC tb tb'){ks:List Ky}{k:Ky}{v:Int}(hk:k∈ks)(h:aK tb k=none)(h':aK tb' k=some v):oS ks tb+1<=oS ks tb':=tF (λx _=>yt l x) hk (by unfold wB;rw[h,h'];exact Nat.zero_lt_one)
structure TI(trs rs:Yaa)(q:aJ)(ns:List (List Nat))(M L0:Nat)(tb0 tb:Tb)(op:Ky->Prop):Prop where
 nd:(tb.map (·.1)).Nodup
 le:uC tb0 tb
 out:∀k,k∉CK q ns->aK tb k=aK tb0 k
 snd:∀k∈CK q ns,∀v,aK tb k=some v->Dv rs k v
 sett:∀k∈CK q ns,∀v,aK tb k=some v->¬ op k->B7 trs q tb k v
 opk:∀k,op k->k∈CK q ns/\∃v,aK tb k=some v
 pos:∀k∈CK q ns,∀v,aK tb k=some v->1<=v/\v<=((M+9*oS (CK q ns) tb:Nat):Int)
 len:tb.length<=L0+oS (CK q ns) tb
theorem TI.op{trs:Yaa}{ns:List (List Nat)}{L0:Nat}{tb0:Tb}{op op':Ky->Prop}(h:TI trs rs q ns M L0 tb0 tb op)(h1:∀k,op' k->op k)(h2:∀k v,op k->¬ op' k->aK tb k=some v->B7 trs q tb k v):TI trs rs q ns M L0 tb0 tb op':=
 ⟨h.nd,h.le,h.out,h.snd,λk hk v e no=>by
  by_cases ho:op k
  ·exact h2 k v ho no e
  ·exact h.sett k hk v e ho,λk ho=>h.opk k (h1 k ho),h.pos,h.len⟩
theorem l_{r:Nat×RV}(h:3<=r.1)(p:aJ):bP r p=[[(bo (turned p (dM r.2.t.toNat)),r.2.o1)]]:=by
 unfold bP
 split
 ·omega
 ·omega
 ·omega
 ·rfl
structure HS(rs:Yaa)(ns:List (List Nat))(r:Nat×RV):Prop where
 mem:r∈rs
 k3:3<=r.1
 c1:1<=r.2.c
 c9:r.2.c<=9
 t0:0<=r.2.t
 t7:r.2.t<=7
 nm:r.2.n∈ns
theorem TI.low{trs:Yaa}{ns:List (List Nat)}{L0:Nat}{tb0:Tb}{op:Ky->Prop}(h:TI trs rs q ns M L0 tb0 tb op)(hq:rect q a c)(a0:0<a)(c0:0<c)(hO:∀t,t<8->xE (turned q t))(h8:ns.length<=8){r:Nat×RV}(hr:HS rs ns r){t:Nat}(ht:t<8){v:Int}(hk:(bo (turned q t),r.2.o1)∈CK q ns)(hv:aK tb (bo (turned q t),r.2.o1)=some v) :
  TI trs rs q ns M L0 tb0 (dA tb (gF q r t) (v+r.2.c)) (λx=>op x\/(gN tb (gF q r t) (v+r.2.c)=true/\x=gF q r t))/\FH (CK q ns) (M+576) (dA tb (gF q r t) (v+r.2.c))+(if gN tb (gF q r t) (v+r.2.c)=true then 1 else 0)<=FH (CK q ns) (M+576) tb:=by
 have B:r.2.t.toNat<8:=by have:=hr.t0;have:=hr.t7;omega
 have G:=gs ht B;have g:gF q r t∈CK q ns:=jP.mpr ⟨_,G,_,hr.nm,rfl⟩;have m:Dv rs (gF q r t) (v+r.2.c):=by
  rw[Int.add_comm];refine Dv.one hr.mem (hO _ G) (k:=(bo (turned q t),r.2.o1)) ?_ (h.snd _ hk v hv);rw[l_ hr.k3];have C:=cS hq a0 c0 t;rw[<- bF hq a0 c0 ht B,md C (by split<;>assumption) (by split<;>assumption) B];exact K4.mpr rfl
 have hc1:=hr.c1;have hc9:=hr.c9;obtain⟨p1,p2⟩:=h.pos _ hk v hv;generalize gF q r t=k' at g m ⊢;generalize hv':v+r.2.c=v' at m ⊢;cases o:gN tb k' v' with
 |false=>
  have e:dA tb k' v'=tb:=by unfold dA;rw[o];rfl
  rw[e];exact⟨h.op (λk hk=>hk.elim id λx=>q0Q x.1 (by simp)) λk v l p _=>q0Q (.inl l) p,by simp⟩
 |true=>
  have d:=xh tb k' v';have hcl:=Fm d (CK q ns);have b:aK (dA tb k' v') k'=some v':=by rw[ja,q07 ⟨rfl,o⟩]
  have D:=g5 (CK q ns) (dA tb k' v');rw[sE]at D;have j:∀w,aK tb k'=some w->v'<w:=λw i=>by
   unfold gN at o;rw[i]at o
   simpa using o
  have n:aK tb k'=none->oS (CK q ns) tb+1<=oS (CK q ns) (dA tb k' v'):=λJ=>Dl d g J b;have z:v'<=((M+9*oS (CK q ns) (dA tb k' v'):Nat):Int):=by
   cases i:aK tb k' with
   |none=>have:=n i;omega
   |some w=>
    have h1:=j w i;have h2:=(h.pos _ g w i).2;omega
  refine⟨⟨BV h.nd,h.le.trans d,λk hk=>?_,λk hk w e=>?_,λk hk w e p=>?_,λk l=>?_,λk hk w e=>?_,?_⟩,?_⟩
  ·rw[tR λe=>hk (by rw[e];exact g)];exact h.out k hk
  ·rcases tK e with e | ⟨rfl,rfl⟩
   ·exact h.snd k hk w e
   ·exact m
  ·have I:k≠k':=λe=>p (.inr ⟨rfl,e⟩)
   rw[tR I]at e;exact(h.sett k hk w e λl=>p (.inl l)).le d
  ·rcases l with l | ⟨_,rfl⟩
   ·obtain⟨h1,w,h2⟩:=h.opk k l
    obtain⟨y,_,L⟩:=d k w h2;exact⟨h1,y,L⟩
   ·exact⟨g,v',b⟩
  ·rcases tK e with e | ⟨rfl,rfl⟩
   ·have:=h.pos k hk w e
    exact⟨this.1,⋯⟩
   ·exact⟨⋯,z⟩
  ·have h1:=yI tb k' v'
   have h2:=h.len;cases i:aK tb k' with
   |none=>rw[i]at h1;have:=n i;simp at h1;omega
   |some w=>rw[i]at h1;simp at h1;omega
  ·rw[q07 rfl]
   refine tF (x:=k') (λx _=>?_) g ?_
   ·unfold DE
    cases u:aK tb x with
    |none=>
     by_cases e:x=k'
     ·subst e;rw[b]
      show v'.toNat<=_;simp only;omega
     ·rw[tR e,u];exact Ln _
    |some w=>
     obtain⟨y,l1,O⟩:=d x w u;rw[O];show y.toNat<=w.toNat;omega
   ·unfold DE
    rw[b];cases u:aK tb k' with
    |none=>show v'.toNat<_;simp only;omega
    |some w=>
     have:=j w u;show v'.toNat<w.toNat;omega
theorem TI.mu{trs:Yaa}{ns:List (List Nat)}{L0:Nat}{tb0:Tb}{op:Ky->Prop}(h:TI trs rs q ns M L0 tb0 tb op)(h8:ns.length<=8):FH (CK q ns) (M+576) tb<=(M+577)*64:=by
 have h64:=g5 (CK q ns) tb;have hl:=sE q ns;have h1:FH (CK q ns) (M+576) tb<=(M+577)*(CK q ns).length:=pf λx a=>by
  unfold DE;cases b:aK tb x with
  |none=>exact Ln _
  |some v=>
   have:=(h.pos x a v b).2;show v.toNat<=_;omega
 exact Lv h1 (Nat.mul_le_mul_left _ ⋯)
theorem TI.len64{trs:Yaa}{ns:List (List Nat)}{L0:Nat}{tb0:Tb}{op:Ky->Prop}(h:TI trs rs q ns M L0 tb0 tb op)(h8:ns.length<=8):tb.length<=L0+64:=by
 have h64:=g5 (CK q ns) tb;have hl:=sE q ns;have:=h.len;omega
def lK(rs:Yaa)(n:Nat):List Nat:=match rs[n]? with
 |some r=>r.2.n
 |none=>[]
def qh(rs:Yaa)(p:aJ)(tb:Tb)(ys:List (Int×Nat×List Ky)):Tb:=ys.foldl (λtb y=>dA tb (bo p,lK rs y.2.1) y.1) tb
def Gu(rs:Yaa)(ns:LY)(p:aJ)(tb:Tb):Tb:=qh rs p tb (ns.flatMap (cK (aK tb) rs p))
structure Hl(rs:Yaa)(p:aJ)(tb tb':Tb)(ys:List (Int×Nat×List Ky)):Prop where
 le:uC tb tb'
 out:∀k:Ky,k.1≠bo p->aK tb' k=aK tb k
 all:∀y∈ys,∃v',v'<=y.1/\aK tb' (bo p,lK rs y.2.1)=some v'
 val:∀k v,aK tb' k=some v->aK tb k=some v\/∃y∈ys,k=(bo p,lK rs y.2.1)/\v=y.1
 len:tb'.length<=tb.length+ys.length
 nd:(tb.map (·.1)).Nodup->(tb'.map (·.1)).Nodup
theorem lN(rs:Yaa)(p:aJ):∀(ys:List (Int×Nat×List Ky)) (tb:Tb),Hl rs p tb (qh rs p tb ys) ys
 | [],tb=>⟨uC.refl _,λ_ _=>rfl,(λy hy=>nomatch hy),λk v h=>.inl h,Ln _,id⟩
 |y::ys,tb=>by
  have ih:=lN rs p ys (dA tb (bo p,lK rs y.2.1) y.1);have e:qh rs p tb (y::ys)=qh rs p (dA tb (bo p,lK rs y.2.1) y.1) ys:=rfl;rw[e];refine⟨(xh _ _ _).trans ih.le,λk hk=>?_,λz hz=>?_,λk v h=>?_,?_,λnd=>ih.nd (BV nd)⟩
  ·rw[ih.out k hk,tR λq=>hk (by rw[q])]
  ·rcases Lf.mp hz with rfl | hz
   ·obtain⟨v,l1,e1⟩:=ye tb (bo p,lK rs z.2.1) z.1
    obtain⟨v',l2,e2⟩:=ih.le _ _ e1;exact⟨v',Int.le_trans l2 l1,e2⟩
   ·exact ih.all z hz
  ·rcases ih.val k v h with h | ⟨z,hz,e1,e2⟩
   ·rcases tK h with h | ⟨e1,e2⟩
    ·exact .inl h
    ·exact .inr ⟨y,q0B ..,e1,e2⟩
   ·exact .inr ⟨z,Lg _ hz,e1,e2⟩
  ·have h1:=ih.len
   have h2:=yI tb (bo p,lK rs y.2.1) y.1;rw[Lb]
   split at h2<;>omega
theorem rj{ns:LY}{y:Int×Nat×List Ky}(h:y∈ns.flatMap (cK T rs p)):y.2.1∈ns/\∃r,rs[y.2.1]?=some r/\y.2.2∈bP r p/\bU T r.2.c y.2.2=some y.1:=by
 obtain⟨n,d,a⟩:=List.mem_flatMap.mp h;unfold cK at a;cases hr:rs[n]? with
 |none=>rw[hr]at a;exact nomatch a
 |some r=>
  rw[hr]at a;unfold xg at a;obtain⟨w,b,e⟩:=List.mem_filterMap.mp a;obtain⟨c,g,rfl⟩:=Lr.mp e;exact⟨d,r,hr,b,g⟩
theorem Ar{rs:Yaa}{ns:LY}{n:Nat}{r:Nat×RV}{w:List Ky}{v:Int}(hn:n∈ns)(hr:rs[n]?=some r)(hw:w∈bP r p)(hc:bU T r.2.c w=some v):(v,n,w)∈ns.flatMap (cK T rs p):=by
 refine List.mem_flatMap.mpr ⟨n,hn,?_⟩;unfold cK;rw[hr];exact List.mem_filterMap.mpr ⟨w,hw,by rw[hc];rfl⟩
theorem jQ{rs:Yaa}(hp:iS p a c)(hg:∀r∈rs,r.1<4):∀ns:List Nat,(ns.flatMap (cK T rs p)).length<=6*ns.length
 | []=>Ln _
 |n::ns=>by
  have ih:=jQ (T:=T) hp hg ns;rw[List.flatMap_cons,Lm,Lb];have:(cK T rs p n).length<=6:=by
   unfold cK;cases hr:rs[n]? with
   |none=>exact Lo _
   |some r=>exact Lv (List.length_filterMap_le _ _) (qY (hg r (K6 hr)) hp)
  omega
def pta(rs:Yaa)(ns:LY)(q:aJ)(tb:Tb):Nat->Tb
 |0=>tb
 |n+1=>Gu rs ns (turned q n) (pta rs ns q tb n)
def eD(rs:Yaa):List Nat:=rs.zipIdx.filterMap λx=>if x.1.1=3 then none else some x.2
theorem kM{n:Nat}:n∈eD rs↔∃r,rs[n]?=some r/\r.1≠3:=by
 unfold eD;rw[List.mem_filterMap]
 constructor
 ·rintro⟨⟨r,i⟩,hm,e⟩
  have hi:=List.mem_zipIdx_iff_getElem?.mp hm
  split at e
  ·cases e
  ·rename_i h
   injection e with e
   subst e;exact⟨r,hi,h⟩
 ·rintro⟨r,hr,h⟩
  exact⟨(r,n),List.mem_zipIdx_iff_getElem?.mpr hr,by rw[q06 h]⟩
def oi(rs:Yaa):Yaa:=rs.filter λr=>decide (r.1=3)
structure D1(rs:Yaa)(ns:LY)(q:aJ)(tb0 tb:Tb)(n:Nat):Prop where
 le:uC tb0 tb
 out:∀k:Ky,(∀t,t<8->k.1≠bo (turned q t))->aK tb k=aK tb0 k
 all:∀t,t<n->∀m∈ns,∀r,rs[m]?=some r->∀w∈bP r (turned q t),∀v,bU (aK tb0) r.2.c w=some v->∃v',v'<=v/\aK tb (bo (turned q t),r.2.n)=some v'
 val:∀k v,aK tb k=some v->aK tb0 k=some v\/∃t,t<8/\∃r∈rs,r.1≠3/\∃w∈bP r (turned q t),bU (aK tb0) r.2.c w=some v/\k=(bo (turned q t),r.2.n)
 len:tb.length<=tb0.length+6*ns.length*n
 nd:(tb0.map (·.1)).Nodup->(tb.map (·.1)).Nodup
theorem u3{rs:Yaa}{n:Nat}{r:Nat×RV}(h:rs[n]?=some r):lK rs n=r.2.n:=by unfold lK;rw[h]
theorem vq{rs:Yaa}{tb0:Tb}{a c:Nat}(hg:∀r∈rs,r.1<4)(h6:∀t,t<8->∃a c,iS (turned q t) a c)
  (hK:∀t,t<8->∀r∈rs,r.1≠3->∀w∈bP r (turned q t),∀k∈w,∀t',t'<8->k.1≠bo (turned q t')):∀n,n<=8->D1 rs (eD rs) q tb0 (pta rs (eD rs) q tb0 n) n
 |0,_=>⟨uC.refl _,λ_ _=>rfl,λt ht=>q0Q ht (Nat.not_lt_zero _),λk v h=>.inl h,by simp[pta],id⟩
 |n+1,hn=>by
  have ih:=vq (tb0:=tb0) (a:=a) (c:=c) hg h6 hK n ⋯;have e:pta rs (eD rs) q tb0 (n+1)=Gu rs (eD rs) (turned q n) (pta rs (eD rs) q tb0 n):=rfl;rw[e];generalize pta rs (eD rs) q tb0 n=tb at ih ⊢;unfold Gu;have ps:=lN rs (turned q n) ((eD rs).flatMap (cK (aK tb) rs (turned q n))) tb;obtain⟨a',c',h6'⟩:=h6 n ⋯;have hl:=jQ (T:=aK tb) h6' hg (eD rs);have same:∀{r:Nat×RV},r∈rs->r.1≠3->∀{w:List Ky},w∈bP r (turned q n)->bU (aK tb) r.2.c w=bU (aK tb0) r.2.c w:=fun{r} hr h3 {w} hw=>i5 λk hk=>ih.out k λt' ht'=>hK n ⋯ r hr h3 w hw k hk t' ht';refine⟨ih.le.trans ps.le,λk hk=>?_,λt ht m hm r hr w hw v hv=>?_,λk v h=>?_,?_,λnd=>ps.nd (ih.nd nd)⟩
  ·rw[ps.out k (hk n ⋯)];exact ih.out k hk
  ·by_cases et:t=n
   ·subst et
    obtain⟨r',hr',h3⟩:=kM.mp hm;rw[hr]at hr';cases hr'
    obtain⟨v',l',e'⟩:=ps.all _ (Ar (v:=v) hm hr hw (by rw[same (K6 hr) h3 hw];exact hv));rw[show lK rs m=r.2.n from u3 hr]at e';exact⟨v',l',e'⟩
   ·obtain⟨v1,l1,e1⟩:=ih.all t ⋯ m hm r hr w hw v hv
    obtain⟨v2,l2,e2⟩:=ps.le _ _ e1;exact⟨v2,Int.le_trans l2 l1,e2⟩
  ·rcases ps.val k v h with h | ⟨y,hy,e1,e2⟩
   ·exact ih.val k v h
   ·obtain⟨h1,r,h2,h3,h4⟩:=rj hy
    obtain⟨r',hr',h5⟩:=kM.mp h1;rw[h2]at hr';cases hr'
    have hm:=K6 h2;rw[u3 h2]at e1;exact .inr ⟨n,⋯,r,hm,h5,_,h3,by rw[<- same hm h5 h3,h4,e2],e1⟩
  ·have h1:=ps.len
   have h2:=ih.len;rw[Nat.mul_add];omega
theorem ib(hq:rect q a c)(a0:0<a)(c0:0<c)(t:Nat):bg (turned q t)=bg q:=by
 have b:=cS hq a0 c0 t;unfold bg;rw[b.1,bp b (by split<;>assumption),hq.1,bp hq a0]
 split
 ·rfl
 ·rw[Nat.mul_comm]
theorem D3(hq:rect q a c)(a0:0<a)(c0:0<c){k1 k2:Ky}(hw:[k1,k2]∈bP r q):∃q1 q2,(∃t l b x,t<b/\b<=a/\l<x/\x<=c/\q1=cut q t l b x)/\(∃t l b x,t<b/\b<=a/\l<x/\x<=c/\q2=cut q t l b x)/\k1.1=bo q1/\k2.1=bo q2/\bg q1+bg q2=bg q:=by
 have d:∀{t l b x:Nat},t<b->b<=a->l<x->x<=c->bg (cut q t l b x)=(b-t)*(x-l):=by
  intro t l b x h1 h2 o n;have k:=cz hq h1 h2 o n;unfold bg;rw[k.1,bp k ⋯]
 have all:bg q=a*c:=by unfold bg;rw[hq.1,bp hq a0]
 unfold bP at hw
 split at hw
 ·split at hw
  ·exact nomatch K4.mp hw
  ·exact nomatch hw
 ·obtain⟨m,i,e⟩:=LK.mp hw
  unfold bH at i;obtain⟨j,g,rfl⟩:=LK.mp i;have g:=List.mem_range.mp g;rw[bp hq a0]at g
  injection e with e1 e2
  injection e2 with e2 _
  subst e1;subst e2
  refine⟨_,_,⟨0,0,a,j+1,a0,Ln _,⋯,⋯,rfl⟩,⟨0,j+1,a,c,a0,Ln _,⋯,Ln _,rfl⟩,q0R bo (qx hq),q0R bo (rF hq),?_⟩;rw[d a0 (Ln _) ⋯ ⋯,d a0 (Ln _) ⋯ (Ln _),all,<- Nat.mul_add]
  congr 1;omega
 ·obtain⟨m,i,e⟩:=LK.mp hw
  unfold bH at i;obtain⟨j,g,rfl⟩:=LK.mp i;have g:=List.mem_range.mp g;rw[hq.1]at g
  injection e with e1 e2
  injection e2 with e2 _
  subst e1;subst e2
  refine⟨_,_,⟨0,0,j+1,c,⋯,⋯,c0,Ln _,rfl⟩,⟨j+1,0,a,c,⋯,Ln _,c0,Ln _,rfl⟩,q0R bo (qC hq),q0R bo (rN hq),?_⟩;rw[d ⋯ ⋯ c0 (Ln _),d ⋯ (Ln _) c0 (Ln _),all,<- Nat.add_mul]
  congr 1;omega
 ·exact nomatch K4.mp hw
structure ES(rs:Yaa)(nms:List (List Nat))(Sn:aJ->Prop)(dn:L9)(tb:Tb):Prop where
 nd:(tb.map (·.1)).Nodup
 key:∀k v,aK tb k=some v->tx k.1∈dn/\k.2∈nms/\Dv rs k v/\1<=v
 bnd:∀k v,aK tb k=some v->∀q,Sn q->k.1=bo q->v+585<=1170*(bg q:Int)
 don:∀z∈dn,∃q,Sn q/\z=tx (bo q)
 tur:∀q,Sn q->tx (bo q)∈dn->∀t,t<8->tx (bo (turned q t))∈dn
 prt:∀q,Sn q->tx (bo q)∈dn->∀x∈rs,∀w∈bP x q,∀k∈w,tx k.1∈dn
 clo:∀q,Sn q->tx (bo q)∈dn->HI rs (aK tb) q
structure kF(rs:Yaa)(nms:List (List Nat))(p:aJ)(r c:Nat):Prop where
 hp:rect p r c
 r0:0<r
 c0:0<c
 r6:r<=6
 c6:c<=6
 ns:bB p
 gd:∀x∈rs,kJ x
 nm:∀x∈rs,x.2.n∈nms
 n8:nms.length<=8
 r24:rs.length<=24
theorem kF.turn3(E:kF rs nms p r c){x:Nat×RV}(h:x∈oi rs):HS rs nms x:=by
 obtain⟨h1,h2⟩:=List.mem_filter.mp h;have h3:x.1=3:=by simpa using h2
 have g:=(E.gd x h1).good;exact⟨h1,⋯,g.c1,g.c9,g.t0,g.t7,E.nm x h1⟩
structure sQ(rs:Yaa)(p:aJ)(r c:Nat)(dn:L9)(q:aJ):Prop where
 sq:aY p r c q
 fr:∀t,t<8->tx (bo (turned q t))∉dn
 pt:∀q',aY p r c q'->bg q'<bg q->tx (bo q')∈dn
theorem sQ.parts{dn:L9}(E:kF rs nms p r c)(N:sQ rs p r c dn q){t:Nat}(ht:t<8){x:Nat×RV}(hx:x∈rs)(h3:x.1≠3){w:List Ky}(hw:w∈bP x (turned q t)){k:Ky}(hk:k∈w):∃q',aY p r c q'/\k.1=bo q'/\tx k.1∈dn:=by
 have g:=E.gd x hx;obtain⟨a,b,h1,h2,i,_⟩:=N.sq.rect E.hp;obtain⟨q',d,e,h⟩:=ky E.hp (N.sq.turned E.hp ht) g.good.t0 g.good.t7 hw hk;rcases h with h | h
 ·rw[ib h1 h2 i]at h
  exact⟨q',d,e,by rw[e];exact N.pt q' d h⟩
 ·have:=g.k4
  omega
theorem sQ.notIn{nms:List (List Nat)}{dn:L9}(N:sQ rs p r c dn q){k:Ky}(h:tx k.1∈dn){t:Nat}(ht:t<8):k.1≠bo (turned q t):=λe=>N.fr t ht (by rw[<- e];exact h)
theorem tW(hp:rect p r c)(r6:r<=6)(c6:c<=6)(h:aY p r c q):∃a b,iS q a b:=by
 obtain⟨a,b,h1,h2,d,h4,h5⟩:=h.rect hp;exact⟨a,b,h1,h2,⋯,d,⋯⟩
theorem ES.pta{Sn:aJ->Prop}{dn:L9}(E:kF rs nms p r c)(N:sQ rs p r c dn q)(S:ES rs nms Sn dn tb):∀n,n<=8->D1 rs (eD rs) q tb (pta rs (eD rs) q tb n) n:=
 vq (a:=0) (c:=0) (λx hx=>(E.gd x hx).k4) (λt ht=>tW E.hp E.r6 E.c6 (N.sq.turned E.hp ht)) λt ht x hx h3 w hw k hk t' ht'=>by
  obtain⟨_,_,_,h⟩:=N.parts E ht hx h3 hw hk;exact N.notIn (nms:=nms) h ht'
theorem qX(hp:rect p r c)(h:aY p r c q):1<=bg q:=by
 obtain⟨a,b,h1,h2,d,_⟩:=h.rect hp;unfold bg;rw[h1.1,bp h1 h2];exact Nat.mul_pos h2 d
set_option tactic.hygienic true in
set_option tactic.hygienic true in
theorem ES.start{Sn:aJ->Prop}{dn:L9}{q:aJ}{tb8:Tb}(E:kF rs nms p r c)(Sb:∀q,aY p r c q->Sn q)(N:sQ rs p r c dn q)(S:ES rs nms Sn dn tb)(PS:D1 rs (eD rs) q tb tb8 8) :
  TI (oi rs) rs q nms (1170*bg q-1161) tb8.length tb8 tb8 (λk=>k∈CK q nms/\∃v,aK tb8 k=some v):=by
 have hcp:=qX E.hp N.sq;have new:∀k∈CK q nms,∀v,aK tb8 k=some v->Dv rs k v/\1<=v/\v<=((1170*bg q-1161:Nat):Int):=by
  intro k hk v hv;rcases PS.val k v hv with h | ⟨t,ht,x,hx,h3,w,hw,hc,rfl⟩
  ·obtain⟨t,ht,n,_,rfl⟩:=jP.mp hk
   exact q0Q (S.key _ v h).1 (N.fr t ht)
  ·have g:=(E.gd x hx).good
   have hst:=N.sq.turned E.hp ht;have g1:=g.c1;have g9:=g.c9;refine⟨Ej hx (d9 E.hp E.ns hst) hw hc λk hk u hu=>(S.key k u hu).2.2.1,?_⟩;rcases rH hw with rfl | ⟨k,rfl⟩ | ⟨k1,k2,rfl⟩
   ·injection hc with hc
    omega
   ·obtain⟨a,b,h1,h2,h4,_⟩:=hst.rect E.hp
    rcases rA h1 h2 h4 hw (K4.mpr rfl) with⟨t,l,b,y,k1,k2,k3,k4,k5,k6,k7⟩ | ⟨k1,_⟩
    ·exfalso
     unfold bP at hw
     split at hw
     ·split at hw
      ·exact nomatch K4.mp hw
      ·exact nomatch hw
     ·obtain⟨_,_,e⟩:=LK.mp hw;exact nomatch e
     ·obtain⟨_,_,e⟩:=LK.mp hw;exact nomatch e
     ·rename_i y z0 z1 z2
      rcases hh:x.1 with _ | _ | _ | n
      ·exact q0Q hh z0
      ·exact q0Q hh z1
      ·exact q0Q hh z2
      ·omega
    ·have:=(E.gd x hx).k4
     omega
   ·obtain⟨u1,u2,e1,e2,rfl⟩:=vp hc
    obtain⟨a,b,h1,h2,h4,_⟩:=hst.rect E.hp;obtain⟨q1,q2,⟨t1,l1,b1,x1,m1,m2,m3,m4,rfl⟩,⟨t2,l2,b2,x2,n1,n2,n3,n4,rfl⟩,f1,f2,f3⟩:=D3 h1 h2 h4 hw;rw[ib (N.sq.rect E.hp).choose_spec.choose_spec.1 (N.sq.rect E.hp).choose_spec.choose_spec.2.1 (N.sq.rect E.hp).choose_spec.choose_spec.2.2.1]at f3;have o1:=S.bnd k1 u1 e1 _ (Sb _ (hst.cut E.hp h1 m1 m2 m3 m4)) f1;have o2:=S.bnd k2 u2 e2 _ (Sb _ (hst.cut E.hp h1 n1 n2 n3 n4)) f2;have p1:=(S.key k1 u1 e1).2.2.2;have p2:=(S.key k2 u2 e2).2.2.2;omega
 refine⟨PS.nd S.nd,uC.refl _,λ_ _=>rfl,λk hk v hv=>(new k hk v hv).1,λk hk v hv no=>q0Q ⟨hk,v,hv⟩ no,λk ho=>ho,λk hk v hv=>?_,Nat.le_add_right _ _⟩;have:=new k hk v hv;exact⟨this.2.1,⋯⟩
theorem ES.enter{Sn:aJ->Prop}{dn dn':L9}{q:aJ}{tb8 tb':Tb}(E:kF rs nms p r c)(D:∀q,Sn q->xE q)(Sb:∀q,aY p r c q->Sn q)(N:sQ rs p r c dn q)(S:ES rs nms Sn dn tb)(PS:D1 rs (eD rs) q tb tb8 8)
  (h:TI (oi rs) rs q nms (1170*bg q-1161) tb8.length tb8 tb' (λ_=>False)) (hd:∀z,z∈dn'↔z∈dn\/∃t,t<8/\z=tx (bo (turned q t))):ES rs nms Sn dn' tb':=by
 have hcp:=qX E.hp N.sq;obtain⟨a0,b0,B,y,o,_⟩:=N.sq.rect E.hp;have U:∀t,t<8->xE (turned q t):=λt d=>d9 E.hp E.ns (N.sq.turned E.hp d);have ck:∀k,k∉CK q nms->∀v,aK tb' k=some v->aK tb k=some v:=λk b v j=>by
  rw[h.out k b]at j;rcases PS.val k v j with e | ⟨t,d,x,C,_,w,_,_,rfl⟩
  ·exact e
  ·exact q0Q (jP.mpr ⟨t,d,_,E.nm x C,rfl⟩) b
 have O:∀k:Ky,tx k.1∈dn->aK tb' k=aK tb k:=λk b=>by
  have nc:∀t,t<8->k.1≠bo (turned q t):=λt d=>N.notIn (nms:=nms) b d;rw[h.out k λe=>by obtain⟨t,d,n,_,rfl⟩:=jP.mp e;exact nc t d rfl,PS.out k nc]
 have h64:=g5 (CK q nms) tb';have hl:=sE q nms;have n8:=E.n8;have M:∀{i:aJ},Sn i->tx (bo i)∈dn'->tx (bo i)∈dn\/∃t,t<8/\i=turned q t:=fun{i} l J=>by
  rcases(hd _).mp J with h | ⟨t,d,e⟩
  ·exact .inl h
  ·exact .inr ⟨t,d,(D _ l).inj (U t d) (dD e)⟩
 refine⟨h.nd,λk v j=>?_,λk v j i l e=>?_,λz J=>?_,λi l J t d=>?_,λi l J x C w G k b=>?_,λi l J x C w G v j=>?_⟩
 ·by_cases b:k∈CK q nms
  ·obtain⟨t,d,n,hn,rfl⟩:=jP.mp b
   exact⟨(hd _).mpr (.inr ⟨t,d,rfl⟩),hn,h.snd _ b v j,(h.pos _ b v j).1⟩
  ·obtain⟨k1,k2⟩:=S.key k v (ck k b v j)
   exact⟨(hd _).mpr (.inl k1),k2⟩
 ·by_cases b:k∈CK q nms
  ·have:=(h.pos _ b v j).2
   obtain⟨t,d,n,hn,rfl⟩:=jP.mp b;have Z:=(U t d).inj (D _ l) e;rw[<- Z,ib B y o];omega
  ·exact S.bnd k v (ck k b v j) i l e
 ·rcases(hd z).mp J with h1 | ⟨t,d,rfl⟩
  ·exact S.don z h1
  ·exact⟨_,Sb _ (N.sq.turned E.hp d),rfl⟩
 ·rcases M l J with h1 | ⟨u,I,rfl⟩
  ·exact(hd _).mpr (.inl (S.tur i l h1 t d))
  ·exact(hd _).mpr (.inr ⟨after u t,gs I d,by rw[bF B y o I d]⟩)
 ·rcases M l J with h1 | ⟨u,I,rfl⟩
  ·exact(hd _).mpr (.inl (S.prt i l h1 x C w G k b))
  ·have g:=(E.gd x C).good
   by_cases Y:x.1=3
   ·rw[l_ ⋯]at G
    rw[K4.mp G]at b;rw[K4.mp b];have T:dM x.2.t.toNat<8:=kO (by have:=g.t0;have:=g.t7;omega);exact(hd _).mpr (.inr ⟨after u (dM x.2.t.toNat),gs I T,by rw[bF B y o I T]⟩)
   ·obtain⟨_,_,_,h5⟩:=N.parts E I C Y G b
    exact(hd _).mpr (.inl h5)
 ·rcases M l J with h1 | ⟨u,I,rfl⟩
  ·rw[i5 (T':=aK tb) λk b=>O k (S.prt i l h1 x C w G k b)]at j
   rw[O (bo i,x.2.n) h1];exact S.clo i l h1 x C w G v j
  ·have g:=(E.gd x C).good
   by_cases Y:x.1=3
   ·have L:x.2.t.toNat<8:=by have:=g.t0;have:=g.t7;omega
    have T:dM x.2.t.toNat<8:=kO L;rw[l_ ⋯]at G;rw[K4.mp G]at j;obtain⟨a,ha,rfl⟩:=nX j;have R:=gs I T;have a1:=cS B y o u;have et:turned (turned q u) (dM x.2.t.toNat)=turned q (after u (dM x.2.t.toNat)):=bF B y o I T;rw[et]at ha
    by_cases b:(bo (turned q (after u (dM x.2.t.toNat))),x.2.o1)∈CK q nms
    ·obtain⟨v',l',Z⟩:=h.sett _ b a ha id x (List.mem_filter.mpr ⟨C,by simpa using Y⟩) rfl _ R rfl
     refine⟨v',⋯,?_⟩;have e2:turned q (after (after u (dM x.2.t.toNat)) x.2.t.toNat)=turned q u:=by
      rw[<- bF B y o R L,<- et,bF a1 (by split<;>assumption) (by split<;>assumption) T L,wq L,mw]
     unfold gF at Z;rw[e2]at Z;exact Z
    ·exact q0Q (S.key _ a (ck _ b a ha)).1 (N.fr _ R)
   ·have hc:bU (aK tb) x.2.c w=some v:=by
     rw[<- j];exact i5 λk b=>by
      obtain⟨_,_,_,h5⟩:=N.parts E I C Y G b;exact(O k h5).symm
    obtain⟨m,hm⟩:=List.mem_iff_getElem?.mp C;obtain⟨v1,l1,e1⟩:=PS.all u I m (kM.mpr ⟨x,hm,Y⟩) x hm w G v hc;obtain⟨v2,l2,e2⟩:=h.le _ _ e1;exact⟨v2,Int.le_trans l2 l1,e2⟩
abbrev rY:Stmt:=fC 57
inductive oz(vs:List V)(H:Hp)(Q:VK)(_E:XK):Prop
 |mk (d b:Addr) (tb:Tb) (k:Ky) (v:Int) (_:vs=[.ref d,.ref b,.int v]) (_:b_ H d tb) (_:a_ H b k) (_:tb.length<sizeLine) (_:∀H',b_ H' d (dA tb k v)->aT d H H'->Q (.bl (gN tb k v)) H')
theorem AO:aB ["told","key","cost"] ["told","key","cost"] (ak rY):=by walk_at "c"
theorem CF{f:Addr}(F:dj K "lower" "lower" rY f fd)(nb:NB mg):↑aS 1 f fd ["told","key","cost"] oz:=by
 have sc:=AO;walk_at "f"
 ·obtain⟨d,b,tb,k,v,rfl,m,n,o,q⟩:=h
  have l:=m.told.get n;have j:=hr.units;have fin:gN tb k v=true->∀H2,H2=aG H d (.dT (du (tb.map pU) (jX k) (.int v)))->Q (.bl true) H2:=λa H2 e=>by
   have p:dA tb k v=qv tb k v:=by unfold dA;rw[q07 a]
   have:=q H2 (by rw[p,e,Cf];exact af) (by rw[e];exact(aT.of λ_ _ h=>h).put)
   rwa [a]at this
  have c:Ai H d (.ref b) (.int v) (aG H d (.dT (du (tb.map pU) (jX k) (.int v)))):=Ai.t m n (by rw[K3];exact o);refine⟨_,(ae (bJ (PW.pt (tG (lI (xP (LH (LM (by decide:1<=64) _) j) (am 1) (am 0)) (by with_unfolding_all rfl)) (nk (aU (bD.m0 kR) (kx (LH (LM (by decide:1<=64) _) j) (am 0) (am 1) (λ_ _=>rfl)) (am 2) (aX _)))))
   (ag (aH o9))
   aP)
   (ae (r_ (LH (LM (by decide:1<=64) _) j) (am 0) (am 1) (am 2) rfl)
   (ag (aH o9)))),?_⟩
  symm;refine⟨_,l,?_⟩;cases i:aK tb k with
  |none=>
   rw[q06 (by simp)];refine h1 _ _ ?_;ext;exact⟨_,c,fin (by unfold gN;rw[i]) _ rfl⟩
  |some u=>
   rw[i]at l;rw[q07 (by rfl)];refine⟨_,l,u,rfl,?_⟩
   by_cases g:u<=v
   ·rw[q07 g]
    have a:gN tb k v=false:=by unfold gN;rw[i];simp;omega
    have:=q H (by unfold dA;rw[a];exact m) (aT.of λ_ _ h=>h)
    rwa [a]at this
   ·rw[q06 g]
    refine h1 _ _ ?_;ext;exact⟨_,c,fin (by unfold gN;rw[i];simp;omega) _ rfl⟩
abbrev fw:Stmt:=fC 56
inductive il(R:RC)(CG CC:Addr)(vs:List V)(H:Hp)(Q:VK)(_E:XK):Prop
 |mk (g dx ln cu d:Addr) (sg st:LY) (as:L5) (rs:Yaa) (ns:LY) (p:aJ) (r c:Nat) (tb:Tb) (_:vs=[.ref g,.ref ln,.ref cu,.ref d]) (_:c7 R H CG dx g sg st as rs) (_:(∀r∈rs,kJ r)) (_:H ln=some (.lst (v4 ns))) (_:(∀n∈ns,n<rs.length)) (_:ns.length<=100) (_:eF CC H cu p) (_:iS p r c) (_:b_ H d tb) (_:tb.length<=10000000) (_:∀H',b_ H' d (Gu rs ns p tb)->aT d H H'->Q .non H')
theorem mU:aB ["grammar","numbers","cuts","told","cost","number","way"] ["grammar","numbers","cuts","told"] (ak fw):=by walk_at "c"
theorem mJ{f:Addr}(F:dj K "put_together" "put_together" fw f fd)(nb:NB mg)(rk:lW K R)(clC:io K CC)(naC:EK K CC)(yal:↑gI 1 CG "rule" ["self","k"] (eN R CG))(yaY:↑dl 6 "coming" ["grammar","numbers","cuts","told"] (qQ R CG CC))(yar:↑dl 1 "lower" ["told","key","cost"] oz):↑aS 7 f fd ["grammar","numbers","cuts","told"] (il R CG CC):=by
 have sc:=mU;walk_at "f"
 ·obtain⟨g,dx,ln,cu,d,sg,st,as,a,ns,p,r,c,tb,rfl,hG,hg,a5,G,o,hC,hp,hT,htl,q⟩:=h
  have hu:=hr.units;refine⟨_,(ag (bd PassesOwn.never rfl (aW (aI yaY (hr.mono nofun) rfl aL (ac (am 0) (ac (am 1) (ac (am 2) (ac (am 3) ad)))))) (sM (n:=3) rfl (cj (q02 4 sc.nd) (cj (q02 5 sc.nd) (cj (q02 6 sc.nd) gQ))))
   (ag (bE (aI yar (hr.mono nofun) rfl aL (ac (am 3) (ac (b6 (ac (bw (am 2) rfl) (ac (bw (ke yal (hr.mono nofun) aL (am 0) (ac (am 5) ad)) rfl) ad))) (ac (am 4) ad)))))))),?_⟩
  ext;refine⟨g,dx,ln,cu,d,sg,st,as,a,ns,p,r,c,aK tb,rfl,hG,hg,a5,G,o,hC,hp,hT.told,λl H1 hl hL M=>?_⟩;obtain⟨bs,hb,hA⟩:=hL;have u:b_ H1 d tb:=hT.up M;have a9:=hG.up M;have b0:=hC.up M;have a0:=jQ (T:=aK tb) hp (λr hr=>(hg r hr).k4) ns;have z:∀y∈ns.flatMap (cK (aK tb) a p),y.2.1∈ns:=λy O=>(rj O).1;have a4:Gu a ns p tb=qh a p tb (ns.flatMap (cK (aK tb) a p)):=rfl;rw[a4]at q;generalize ns.flatMap (cK (aK tb) a p)=ys at hA a0 z q;have a7:=hA.1;refine⟨l,rfl,⟨_,aR.of hb⟩,?_⟩;refine bL (xs:=bs.map V.ref) (λi σ v=>aT d H1 v/\b_ v d (qh a p tb (ys.take i))/\i<=bs.length/\∃Y U S,σ=[some (V.ref g),some (V.ref ln),some (V.ref cu),some (V.ref d),Y,U,S]) ⟨aT.of λ_ _ h=>h,u,Lo _,_,_,_,rfl⟩ (λi σ v _ h=>aR.of ((h.1.kp u).lst hb)) ?_ ?_
  ·rintro i x σ v hx ⟨L,k,_,Y,U,S,rfl⟩
   rw[K5]at hx;obtain⟨b,I,rfl⟩:=Lr.mp hx;have hi:=(K1.mp I).1;obtain⟨y,O,a1⟩:=hA.get I;have kp:=L.kp u;obtain⟨lw,a8,_⟩:=a1.kp kp;obtain⟨j,m⟩:∃j,a[y.2.1]?=some j:=⟨_,K0 (G _ (z y (K6 O)))⟩;have J:=a9.kp kp;obtain⟨dxc,lp,lb,la,a6,_⟩:=b0.kp kp;obtain⟨lk,pn,t0,ha,hkk,C,hN,hmm⟩:=id J;obtain⟨ra,D⟩:∃b,as[y.2.1]?=some b:=⟨_,K0 (by rw[C.1];exact(K1.mp m).1)⟩;obtain⟨rdx,rl,a3,_⟩:=C.2 _ ra j D m;ext;refine⟨_,gG.of a8,rfl,_,_,rfl,_,_,rfl,_,_,rfl,rfl,?_⟩;refine⟨_,_,_,a6,clC,naC.2.1,_,rfl,dx,_,ha,rfl,g,dx,sg,st,as,a,y.2.1,ra,rfl,J,D,?_⟩;refine⟨ra,rfl,_,_,_,a3,(rk.icls j.1).cl,(rk.name j.1).1,_,(jd rl j.2 j.1).1,av nofun,λtp B=>?_⟩;have hps:=(lN a p (ys.take i) tb).len;have htk:(ys.take i).length<=ys.length:=by rw[LC];omega
   refine⟨d,tp,qh a p tb (ys.take i),(bo p,j.2.n),y.1,rfl,k.up (ai B),af,?_,λH2 a2 Z=>⟨L.trans ((aT.of (ai B)).trans Z),?_,hi⟩⟩
   ·have:=q0W;omega
   ·have e:qh a p tb (ys.take (i+1))=dA (qh a p tb (ys.take i)) (bo p,j.2.n) y.1:=by
     unfold qh;rw[q0E,O,List.foldl_append];show dA _ (bo p,lK a y.2.1) y.1=_;rw[show lK a y.2.1=j.2.n by unfold lK;rw[m]]
    rw[e];exact a2
  ·rintro σ v ⟨L,k,_,Y,U,S,rfl⟩
   rw[K3,a7,LB]at k;exact q v k ((aT.of M).trans L)
abbrev tL:Stmt:=fC 22
inductive uX(vs:List V)(H:Hp)(Q:VK)(_E:XK):Prop
 |mk (t u:Nat) (_:vs=[.int (t:Int),.int (u:Int)]) (_:t<8) (_:u<8) (_:Q (.int (after t u:Nat)) H)
theorem Cl:aB ["t","u"] ["t","u"] (ak tL):=by walk_at "c"
theorem BH{f:Addr}(F:dj K "after" "after" tL f fd):↑aS 1 f fd ["t","u"] uX:=by
 have sc:=Cl;walk_at "f"
 ·obtain⟨t,u,rfl,ht,hu,q⟩:=h
  refine⟨_,(ae (bJ (nn uW (pv 1) aj (aX _))
   (ag (aH (aE bW (aE cW (aE bY (pv 0) aj) aj) (aE bG (aE bW (pv 0) (pv 1)) aj))))
   aP)
   (ag (aH (aE bW (aE cW (aE tj aj (aE bY (pv 0) aj)) aj) (aE bG (aE tj (pv 1) (pv 0)) aj))))),?_⟩
  ext
  split
  ·have e:((after t u:Nat):Int)=(t:Int)/4*4+((t:Int)+u)%4:=by unfold after;rw[q07 ⋯];omega
   rw[<- e];exact q
  ·have e:((after t u:Nat):Int)=(1-(t:Int)/4)*4+((u:Int)-t)%4:=by unfold after;rw[q06 ⋯];omega
   rw[<- e];exact q
theorem aM.app{β:Type}{A:Hp->Addr->β->Prop}:∀{bs2:L5} {ys2:List β} {bs:L5} {ys:List β},aM A H bs ys->aM A H bs2 ys2->aM A H (bs++bs2) (ys++ys2)
 | [],[],bs,ys,h,_=>by rw[Ly,Ly];exact h
 | [],_::_,_,_,_,h2=>nomatch h2.1
 |_::_,[],_,_,_,h2=>nomatch h2.1
 |b::bs2,y::ys2,bs,ys,h,h2=>by
  have h3:aM A H bs2 ys2:=⟨Nat.succ.inj h2.1,λi c z e1 e2=>h2.2 (i+1) c z e1 e2⟩;have:=aM.app (h.snoc (h2.2 0 b y rfl rfl)) h3
  rwa [Lz,Lz]at this
theorem CP{H:Hp}{Q:VK}{neg:Bool}(ha:H a=some (.lst xs))(hb:H b=some (.lst []))(q:Q (.bl (xs.isEmpty != neg)) H):AU K neg (.ref a) (.ref b) H Q:=by
 cases xs with
 |nil=>
  refine .inl ⟨[],by unfold Dt.deps;omega,.inl ⟨?_,?_⟩,by simpa using q⟩
  ·unfold j9;exact⟨a,_,rfl,aR.of ha,by unfold eu;rfl⟩
  ·unfold j9;exact⟨b,_,rfl,aR.of hb,by unfold eu;rfl⟩
 |cons x xs=>exact .inr ⟨a,b,_,_,rfl,rfl,aR.of ha,aR.of hb,by simp,by simpa using q⟩
def fb(q:aJ):List Str:=(List.range 8).map λt=>tx (bo (turned q t))
def jA(q:aJ)(ns:List (List Nat))(tb:Tb)(n:Nat):List Ky:=((List.range n).flatMap λt=>ns.map λn=>(bo (turned q t),n)).filter λk=>(aK tb k).isSome
theorem om(q:aJ)(ns:List (List Nat))(tb:Tb)(n:Nat):jA q ns tb (n+1)=jA q ns tb n++ns.filterMap λm=>if(aK tb (bo (turned q n),m)).isSome=true then some (bo (turned q n),m) else none:=by
 unfold jA;rw[q0M,List.flatMap_append,List.filter_append]
 congr 1
 rw[show([n].flatMap λt=>ns.map λn=>(bo (turned q t),n))=ns.map λm=>(bo (turned q n),m) by simp]
 induction ns with
 |nil=>rfl
 |cons m ns ih=>
  rw[Lu,List.filter_cons,q0U];cases h:(aK tb (bo (turned q n),m)).isSome with
  |true=>simp only[q07];rw[ih]
  |false=>simp only[q0a,if_false];exact ih
theorem ma(q:aJ)(ns:List (List Nat))(tb:Tb):∀n,(jA q ns tb n).length<=n*ns.length
 |0=>by simp[jA]
 |n+1=>by
  rw[om,Lm,Nat.add_mul,Nat.one_mul];exact Nat.add_le_add (ma q ns tb n) (List.length_filterMap_le _ _)
theorem qy{ns:List (List Nat)}{k:Ky}:k∈jA q ns tb 8↔k∈CK q ns/\∃v,aK tb k=some v:=by
 unfold jA;rw[List.mem_filter,Option.isSome_iff_exists];rfl
theorem uM{z:Str}:∀{ts:L9},z∈ts->∃j:Nat,ts[j]?=some z/\∀(m:Nat) (y:Str),m<j->ts[m]?=some y->y≠z
 | [],h=>nomatch h
 |x::ts,h=>by
  by_cases e:x=z
  ·exact⟨0,by rw[e];rfl,λm y hm=>q0Q hm (Nat.not_lt_zero _)⟩
  ·rcases Lf.mp h with h | h
   ·exact q0Q h.symm e
   ·obtain⟨j,h1,h2⟩:=uM h
    refine⟨j+1,h1,λm y hm hy=>?_⟩;cases m with
    |zero=>rw[List.getElem?_cons_zero]at hy;cases hy;exact e
    |succ m=>exact h2 m y ⋯ hy
theorem F1{t:Nat}{z:Str}(h:(fb q)[t]?=some z):t<8/\z=tx (bo (turned q t)):=by
 unfold fb at h;rw[K5]at h;obtain⟨x,a,rfl⟩:=Lr.mp h;have b:=(K1.mp a).1;rw[q0J]at b;rw[List.getElem?_range b]at a;cases a;exact⟨b,rfl⟩
theorem AE{t:Nat}(h:t<8):(fb q)[t]?=some (tx (bo (turned q t))):=by
 unfold fb;rw[K5,List.getElem?_range h];rfl
inductive Iu(H:Hp)(q:aJ)(ns:List (List Nat))(tb0:Tb)(lr lt ln d l:Addr)(i:Nat)(H':Hp):St->Prop
 |mk (bs:L5) (x5 x6 x7 x8 x9:Option V) (_:aA H H') (_:H' l=some (.lst (bs.map V.ref))) (_:aM a_ H' bs (jA q ns tb0 i)):Iu H q ns tb0 lr lt ln d l i H' [some (V.ref lr),some (V.ref lt),some (V.ref ln),some (V.ref d),some (V.ref l),x5,x6,x7,x8,x9]
inductive Ih(H:Hp)(trs rs:Yaa)(q:aJ)(ns:List (List Nat))(M L0:Nat)(tb0:Tb)(lr lt ln d:Addr)(m:Nat)(H':Hp):St->Prop
 |mk (tb:Tb) (chs:List Ky) (l2:Addr) (cs:L5) (x5 x6 x7 x8 x9:Option V) (_:aT d H H') (_:b_ H' d tb) (_:H' l2=some (.lst (cs.map V.ref))) (_:aM a_ H' cs chs) (_:TI trs rs q ns M L0 tb0 tb (λk=>k∈chs)) (_:chs.length<=8000000) (_:m=FH (CK q ns) (M+576) tb+(if chs=[] then 0 else 1)):Ih H trs rs q ns M L0 tb0 lr lt ln d m H' [some (V.ref lr),some (V.ref lt),some (V.ref ln),some (V.ref d),some (V.ref l2),x5,x6,x7,x8,x9]
structure Ie(trs rs:Yaa)(q:aJ)(ns:List (List Nat))(M L0:Nat)(tb0 tb:Tb)(all:List Ky)(d l2 lw:Addr)(cs:L5)(H H':Hp)(i:Nat)(tb5:Tb)(ws:L5)(lws:List Ky):Prop where
 sx:aT d H H'
 l:H' l2=some (.lst (cs.map V.ref))
 cA:aM a_ H' cs all
 T:b_ H' d tb5
 w:H' lw=some (.lst (ws.map V.ref))
 wA:aM a_ H' ws lws
 I:TI trs rs q ns M L0 tb0 tb5 (λk=>k∈all.drop i\/k∈lws)
 m:FH (CK q ns) (M+576) tb5+lws.length<=FH (CK q ns) (M+576) tb
inductive Ig(trs rs:Yaa)(q:aJ)(ns:List (List Nat))(M L0:Nat)(tb0 tb:Tb)(all:List Ky)(lr lt ln d l2 lw:Addr)(cs:L5)(H H':Hp)(i:Nat):St->Prop
 |mk (tb5:Tb) (ws:L5) (lws:List Ky) (x5 x7 x8 x9:Option V) (_:Ie trs rs q ns M L0 tb0 tb all d l2 lw cs H H' i tb5 ws lws):Ig trs rs q ns M L0 tb0 tb all lr lt ln d l2 lw cs H H' i [some (V.ref lr),some (V.ref lt),some (V.ref ln),some (V.ref d),some (V.ref l2),x5,some (V.ref lw),x7,x8,x9]
inductive Iq(trs rs:Yaa)(q:aJ)(ns:List (List Nat))(M L0:Nat)(tb0 tb:Tb)(all:List Ky)(lr lt ln d l2 lw:Addr)(cs:L5)(H:Hp)(i t:Nat)(k:Ky)(v:Int)(H':Hp)(j:Nat):St->Prop
 |mk (tb5:Tb) (ws:L5) (lws:List Ky) (x8 x9:Option V) (_:Ie trs rs q ns M L0 tb0 tb all d l2 lw cs H H' i tb5 ws lws) (_:aK tb5 k=some v) (_:∀r∈trs.take j,r.2.o1=k.2->∃v',v'<=v+r.2.c/\aK tb5 (gF q r t)=some v'):Iq trs rs q ns M L0 tb0 tb all lr lt ln d l2 lw cs H i t k v H' j [some (V.ref lr),some (V.ref lt),some (V.ref ln),some (V.ref d),some (V.ref l2),some (V.str (tx k.1)),some (V.ref lw),some (V.str (tx k.2)),x8,x9]
abbrev gJ:Stmt:=fC 58
theorem ve{tb:TS}{σ:St}(h:∀tb',tb'=tb->v5 c tb' D σ H):v5 c tb D σ H:=h tb rfl
theorem An{n:Nat}(h:n<=8000000):n<sizeLine:=by have:=q0W;omega
inductive jr(R:RC)(vs:List V)(H:Hp)(Q:VK)(_E:XK):Prop
 |mk (lr lt ln d:Addr) (as:L5) (trs rs:Yaa) (q:aJ) (a c:Nat) (ns:List (List Nat)) (M L0:Nat) (tb0:Tb) (_:vs=[.ref lr,.ref lt,.ref ln,.ref d]) (_:H lr=some (.lst (as.map V.ref))) (_:bI R H as trs) (_:H lt=some (.lst ((fb q).map V.str))) (_:H ln=some (.lst (ns.map λn=>V.str (tx n)))) (_:b_ H d tb0) (_:rect q a c) (_:0<a) (_:0<c) (_:(∀t,t<8->xE (turned q t))) (_:ns.length<=8) (_:(∀r∈trs,HS rs ns r/\r.1=3)) (_:TI trs rs q ns M L0 tb0 tb0 (λk=>k∈CK q ns/\∃v,aK tb0 k=some v)) (_:M<=100000) (_:L0<=10000000) (_:∀H' tb',b_ H' d tb'->TI trs rs q ns M L0 tb0 tb' (λ_=>False)->aT d H H'->Q .non H')
theorem qo:aB ["rules","texts","names","told","changed","text","lowered","name","rule","key"] ["rules","texts","names","told"] (ak gJ):=by walk_at "c"
theorem pK{f:Addr}(F:dj K "turn_about" "turn_about" gJ f fd)(nb:NB mg)(rk:lW K R)(ya2:↑dl 1 "after" ["t","u"] uX)(yar:↑dl 1 "lower" ["told","key","cost"] oz):↑aS 2 f fd ["rules","texts","names","told"] (jr R):=by
 have sc:=qo;walk_at "f"
 ·obtain⟨lr,lt,ln,d,as,trs,rs,q,a,c,ns,M,L0,tb0,rfl,hlr,hrs,hlt,hln,hT,hq,a0,c0,hO,h8,hR,hTI,hM,hL0,qq⟩:=h
  have hu:=hr.units;refine⟨_,(ae (q01 4 sc.nd (bA ad))
   (ae (bd PassesOwn.never rfl (aW (am 1)) (aD (i:=5) sc.nd rfl (Or.inr rfl))
   (ag (bE (gt PySem.F.plainAttrs_list PySem.F.slot_list_extend PySem.F.type_list_extend lZ (am 4) (ac (cq ["name"] [5,3] rfl (bz.of (by kernel_rfl)) (by kernel_rfl) (aW (am 2))
    (λ_ _ _ _=>(aD (i:=0) (by show(["name","text","told"]:List Str).Nodup;decide +kernel) rfl (Or.inl rfl))) (λ_ _ _ _=>(nh (lI (xP (LH (LM (by decide:1<=64) _) hu) (b6 (ac (am 1) (ac (am 0) ad))) (am 2)) (by with_unfolding_all rfl)))) (λ_ _ _ _=>(b6 (ac (am 1) (ac (am 0) ad))))) ad)))))
   (ag (BL PassesOwn.never (aU (FX hu) (am 4) (bA ad) (aX _)) (ae (q01 6 sc.nd (bA ad))
   (ae (bd PassesOwn.never rfl (aW (am 4)) (sM (n:=2) rfl (cj (aD (i:=5) sc.nd rfl (Or.inr rfl)) (cj (q02 7 sc.nd) gQ)))
   (ag (bd PassesOwn.never rfl (aW (am 0)) (q02 8 sc.nd)
   (ae (q01 9 sc.nd (b6 (ac (ba bS (am 1) (aI ya2 (hr.mono nofun) rfl aL (ac (gt PySem.F.plainAttrs_list PySem.F.slot_list_index PySem.F.type_list_index zd (am 1) (ac (am 5) ad)) (ac (bw (am 8) rfl) ad))) (λ_ _=>rfl)) (ac (bw (am 8) rfl) ad))))
   (ag (bJ (PW.pt (tG (aU d0 (bw (am 8) rfl) (am 7) (aX _)) (nk (fU (aI yar (hr.mono nofun) rfl aL (ac (am 3) (ac (am 9) (ac (aE (bD.m0 bW) (kx (LH (LM (by decide:1<=64) _) hu) (am 3) (b6 (ac (am 5) (ac (am 7) ad))) (λ_ _=>rfl)) (bw (am 8) rfl)) ad)))) λ_=>rfl))))
   (ag (bE (gt PySem.F.plainAttrs_list PySem.F.slot_list_append PySem.F.type_list_append dt (am 6) (ac (am 9) ad))))
   aP))))))
   (ag (q01 4 sc.nd (am 6))))))))),?_⟩
  symm;refine⟨Lo _,λl hl=>h1 _ _ ?_⟩;clear h1;generalize z0:aG H l _=H1;obtain⟨s1,e1⟩:=jR hl z0;symm;have hT1:b_ H1 d tb0:=hT.up s1;have hcl:(fb q).length=8:=by unfold fb;rw[K3,q0J]
  refine⟨⟨_,aR.of (s1 _ _ hlt)⟩,?_⟩;refine bL (xs:=(fb q).map V.str) (λi σ H'=>Iu H q ns tb0 lr lt ln d l i H' σ) (.mk [] _ _ _ _ _ s1 e1 aM.nil) (λi σ H' _ h=>by cases h with | mk _ _ _ _ _ _ s=>exact aR.of (s _ _ hlt)) ?_ ?_
  ·rintro i x σ H' hx ⟨bs,x5,x6,x7,x8,x9,sm,hb,hA⟩
   rw[K5]at hx;obtain⟨z,hz,rfl⟩:=Lr.mp hx;have hi:i<8:=by have:=(K1.mp hz).1;omega
   have hz':z=tx (bo (turned q i)):=by
    unfold fb at hz;rw[K5,List.getElem?_range hi]at hz;cases hz;rfl
   subst hz';ext;refine⟨.inl ⟨rfl,_,aR.of hb⟩,⟨_,aR.of (sm _ _ hln)⟩,?_⟩;refine u9 a_ a_.up (as:=ns) (emb:=λn=>V.str (tx n)) (f:=λn=>if(aK tb0 (bo (turned q i),n)).isSome=true then some (bo (turned q i),n) else none) (λσ=>∃x,σ=[x,some (V.str (tx (bo (turned q i)))),some (V.ref d)]) ⟨_,rfl⟩ (λH2 s2=>aR.of (s2 _ _ (sm _ _ hln))) ⋯ ?_ ?_
   ·rintro j n hn σ H2 M1 M0 ⟨x0,rfl⟩ s2 k1 k0
    have hT2:b_ H2 d tb0:=(hT.up sm).up s2;ext;refine⟨av nofun,λtp htp=>?_⟩;generalize z0:aG H2 tp _=H3;obtain⟨s3,(hk:a_ H3 tp (bo (turned q i),n))⟩:=jR htp z0;have hg:=(hT2.up s3).told.get hk;refine⟨_,hg,?_⟩;cases hv:aK tb0 (bo (turned q i),n) with
    |none=>
     rw[q06 (by simp)];exact k0 _ _ (by simp[hv]) (s2.trans s3) s3 ⟨_,rfl⟩
    |some v=>
     rw[q07 (by rfl)];exact⟨av nofun,λt2 ht2=>k1 t2 (bo (turned q i),n) _ _ (by simp[hv]) af (s2.trans (s3.trans (ai ht2))) (s3.trans (ai ht2)) ⟨_,rfl⟩⟩
   ·intro bs2 H2 s2 hA2 l2 hl2
    generalize z0:aG H2 l2 _=H3;obtain⟨s3,e3⟩:=jR hl2 z0;have hb3:=s3 _ _ (s2 _ _ hb);have n1:=hA.1;have n2:=hA2.1;have n3:=ma q ns tb0 i;have n4:=List.length_filterMap_le (λn=>if(aK tb0 (bo (turned q i),n)).isSome=true then some (bo (turned q i),n) else none) ns;have n5:i*ns.length<=8*8:=Nat.mul_le_mul ⋯ h8;refine⟨_,hb3,_,e3,by rw[K3,K3];exact av ⋯,?_⟩;refine .mk (bs++bs2) _ _ _ _ _ (cO ((sm.trans s2).trans s3) hl) (by rw[af,Lc]) ?_;rw[om];exact aM.app (hA.mono λb y _ _ h=>((h.up s2).up s3).put hb3) (hA2.mono λb y _ _ h=>(h.up s3).put hb3)
  ·rintro σ H' ⟨bs,x5,x6,x7,x8,x9,sm,hb,hA⟩
   refine h1 _ _ ?_;rw[K3,hcl]at hA;ext;have hTI0:=hTI.op (op':=λk=>k∈jA q ns tb0 8) (λk hk=>qy.mp hk) (λk v ho no _=>q0Q (qy.mpr ho) no);have hch:(jA q ns tb0 8).length<=8*8:=Lv (ma q ns tb0 8) (Nat.mul_le_mul_left _ h8);have hT':b_ H' d tb0:=hT.up sm;refine ve λtw etw=>?_;refine⟨λm σ H2=>Ih H trs rs q ns M L0 tb0 lr lt ln d m H2 σ,⟨_,.mk tb0 _ l bs _ _ _ _ _ (aT.of sm) hT' hb hA hTI0 ⋯ rfl⟩,?_⟩;rintro m σ H2 ⟨tb,chs,l2,cs,y5,y6,y7,y8,y9,sx,hT2,hc2,hcA,hI,hcl2,hm⟩;ext;refine⟨Lo _,λlz hlz=>?_⟩;generalize z0:aG H2 lz _=H3;obtain⟨s3,e3⟩:=jR hlz z0;refine CP (s3 _ _ hc2) e3 ⟨_,rfl,?_⟩;cases chs with
   |nil=>
    have:cs=[]:=LJ.mp hcA.1;subst this;rw[q06 (by simp)];exact qq H3 tb (hT2.up s3) (hI.op (λk hk=>hk.elim) (λk v ho _ _=>nomatch ho)) (sx.then s3)
   |cons ch chs=>
    have hne:cs≠[]:=λe=>by rw[e]at hcA;exact nomatch hcA.1
    rw[q07 (by cases cs with | nil=>exact q0Q rfl hne | cons _ _=>rfl)];rw[etw];generalize hall:ch::chs=all at hcA hI hcl2 hm;have ybK:all≠[]:=λe=>nomatch hall.trans e;rw[q06 ybK]at hm;refine⟨_,λσ' H' h=>h,?_⟩;have hmu:=hI.mu h8;have hmu2:(M+577)*64<=8000000:=by omega
    have hT3:b_ H3 d tb:=hT2.up s3;have sx3:=sx.then s3;have hc3:=s3 _ _ hc2;have hcA3:=hcA.mono λb y _ _ (h:a_ H2 b y)=>h.up s3;symm;refine⟨Lo _,λlw hlw=>h1 _ _ ?_⟩;clear h1;have s4:=ai (o:=.lst []) hlw;have e4:aG H3 lw (.lst []) lw=some (.lst []):=af;have hl2w:l2≠lw:=az hc3 hlw;have hlw0:∀o,H lw=some o->lw=d:=λo h=>by
     by_cases e:lw=d
     ·exact e
     ·have:=sx3 lw o e h
      rw[hlw]at this;cases this
    have hlwd:lw≠d:=λe=>by
     rw[e]at hlw;rw[show H3 d=_ from hT3]at hlw;cases hlw
    generalize aG H3 lw (.lst [])=H4 at s4 e4 ⊢;symm;refine⟨⟨_,aR.of (s4 _ _ hc3)⟩,?_⟩;refine bL (xs:=cs.map V.ref) (λi σ H5=>Ig trs rs q ns M L0 tb0 tb all lr lt ln d l2 lw cs H H5 i σ) ?_ (λi σ H5 _ h=>by cases h with | mk _ _ _ _ _ _ _ h=>exact aR.of h.l) ?_ ?_
    ·exact .mk tb [] [] _ _ _ _ ⟨sx3.then s4,s4 _ _ hc3,hcA3.mono λb y _ _ h=>h.up s4,hT3.up s4,e4,aM.nil,hI.op (λk hk=>hk.elim id λz=>nomatch z) (λk v ho no _=>q0Q (.inl ho) no),Ln _⟩
    ·rintro i x σ H5 hx ⟨tb5,ws,lws,z5,z7,z8,z9,h5⟩
     rw[K5]at hx;obtain⟨cb,hcb,rfl⟩:=Lr.mp hx;have hi:=(K1.mp hcb).1;obtain⟨k,hk,hkb⟩:=h5.cA.get hcb;have ol:=(K1.mp hk).1;have hdr:all.drop i=k::all.drop (i+1):=by
      rw[q0T ol];rw[K0 ol]at hk;cases hk;rfl
     obtain⟨hkC,v,hv⟩:=h5.I.opk k (.inl (by rw[hdr];exact q0B ..));obtain⟨t1,ht1,n1,hn1,ek⟩:=jP.mp hkC;obtain⟨t,hti,hfirst⟩:=uM (z:=tx k.1) (K6 (show(fb q)[t1]?=some (tx k.1) by rw[AE ht1,ek]));obtain⟨ht,ezt⟩:=F1 hti;have ekt:k.1=bo (turned q t):=dD ezt;have kp5:=h5.sx.kp hT;ext;refine⟨_,gG.of hkb,rfl,_,_,rfl,_,_,rfl,rfl,⟨_,aR.of (kp5.lst hlr)⟩,?_⟩;refine bL (xs:=as.map V.ref) (λj σ H6=>Iq trs rs q ns M L0 tb0 tb all lr lt ln d l2 lw cs H i t k v H6 j σ) (.mk tb5 ws lws _ _ h5 hv (λr hr=>nomatch hr)) (λj σ H6 _ h=>by cases h with | mk _ _ _ _ _ h=>exact aR.of ((h.sx.kp hT).lst hlr)) ?_ ?_
     ·rintro j x σ H6 hx ⟨tb6,ws6,lws6,y8,y9,⟨sx6,hl6,hcA6,hT6,hw6,hwA6,hI6,hm6⟩,hv6,hs6⟩
      rw[K5]at hx;obtain⟨ra,hra,rfl⟩:=Lr.mp hx;have hj:=(K1.mp hra).1;obtain⟨r,hr⟩:∃r,trs[j]?=some r:=⟨_,K0 (by rw[<- hrs.1];exact hj)⟩;obtain⟨r3,rk3⟩:=hR r (K6 hr);have kp6:=sx6.kp hT;obtain⟨rdx,rl,hrb,_⟩:=(hrs.kp kp6).2 j ra r hra hr;rw[rk3]at hrb;have hrb':H6 ra=some (.ins R.ct rdx (Ew r.2.n r.2.c rl r.2.o1 r.2.t)):=hrb;have hu8:r.2.t.toNat<8:=by have:=r3.t0;have:=r3.t7;omega
      have hat:=gs ht hu8;refine ao λN1 h1=>?_;have hlt6:H6 lt=some (.lst ((fb q).map V.str)):=kp6.lst hlt;ext;refine⟨.inl ⟨rfl,_,aR.of hlt6⟩,fb q,hlt6,t,hti,hfirst,_,_,_,hrb',rk.i3.cl,rk.a3.2.2.2.2,_,rfl,t,r.2.t.toNat,by rw[LR r3.t0],ht,hu8,_,rfl,(fb q).map V.str,aR.of hlt6,_,bV (by rw[K5,AE hat];rfl),_,_,_,hrb',rk.i3.cl,rk.a3.1,_,rfl,av nofun,λtp htp=>h1 _ _ ?_⟩;clear h1;have s7:=ai (o:=.tup [V.str (tx (bo (turned q (after t r.2.t.toNat)))),V.str (tx r.2.n)]) htp;have hk7:a_ (aG H6 tp (.tup [V.str (tx (bo (turned q (after t r.2.t.toNat)))),V.str (tx r.2.n)])) tp (gF q r t):=af;change Ad _ _ _ _ _ (aG H6 tp (.tup [V.str (tx (bo (turned q (after t r.2.t.toNat)))),V.str (tx r.2.n)]));generalize aG H6 tp (.tup [V.str (tx (bo (turned q (after t r.2.t.toNat)))),V.str (tx r.2.n)])=H7 at s7 hk7 ⊢;have hT7:=hT6.up s7;have hrb7:=s7 _ _ hrb';ext;have htk:trs.take (j+1)=trs.take j++[r]:=by rw[q0E,hr];rfl
      have hwA7:=hwA6.mono λb y _ _ (h:a_ H6 b y)=>h.up s7;have hcA7:=hcA6.mono λb y _ _ (h:a_ H6 b y)=>h.up s7;refine⟨_,_,_,hrb7,rk.i3.cl,rk.a3.2.2.2.1,_,rfl,rfl,?_⟩
      by_cases e:r.2.o1=k.2
      ·rw[q07 (by rw[e])]
       refine⟨av nofun,λtq htq=>?_⟩;generalize z0:aG H7 tq _=H8;obtain⟨s8,(hk8:a_ H8 tq k)⟩:=jR htq z0;have hT8:b_ H8 d tb6:=hT7.up s8;have hg8:=hT8.told.get hk8;rw[hv6]at hg8;have h64:=hI6.len64 h8;have ek2:(bo (turned q t),r.2.o1)=k:=by rw[<- ekt,e]
       obtain⟨hI9,hm9⟩:=hI6.low hq a0 c0 hO h8 r3 ht (v:=v) (by rw[ek2];exact hkC) (by rw[ek2];exact hv6);refine⟨_,hg8,_,_,_,s8 _ _ hrb7,rk.i3.cl,rk.a3.2.1,_,rfl,v,rfl,r.2.c,rfl,d,tp,tb6,gF q r t,v+r.2.c,rfl,hT8,hk7.up s8,by have:=q0W;omega,λH9 hT9 sx9=>⟨_,rfl,?_⟩⟩;have kp9:=sx9.kp hT8;have hv9:aK (dA tb6 (gF q r t) (v+r.2.c)) k=some v:=by
        rw[ja]
        split
        ·rename_i hc
         obtain⟨hc1,hc2⟩:=hc;unfold gN at hc2;rw[<- hc1,hv6]at hc2;have h3:v+r.2.c<v:=by simpa using hc2
         have:=r3.c1;omega
        ·exact hv6
       have hs9:∀r'∈trs.take (j+1),r'.2.o1=k.2->∃v',v'<=v+r'.2.c/\aK (dA tb6 (gF q r t) (v+r.2.c)) (gF q r' t)=some v':=by
        intro r' hr' e';rw[htk]at hr';rcases Ld.mp hr' with hr' | hr'
        ·obtain⟨v1,l1,e1⟩:=hs6 r' hr' e'
         obtain⟨v2,l2,e2⟩:=xh tb6 (gF q r t) (v+r.2.c) _ _ e1;exact⟨v2,Int.le_trans l2 l1,e2⟩
        ·rw[K4.mp hr']
         exact ye _ _ _
       have sx9':=(sx6.then (s7.trans s8)).trans sx9;have hl9:=kp9.lst (s8 _ _ (s7 _ _ hl6));have hw9:=kp9.lst (s8 _ _ (s7 _ _ hw6));have hcA9:=hcA7.mono λb y _ _ (h:a_ H7 b y)=>(h.up s8).kp kp9;have hwA9:=hwA7.mono λb y _ _ (h:a_ H7 b y)=>(h.up s8).kp kp9;have hk9:=(hk7.up s8).kp kp9;cases hlb:gN tb6 (gF q r t) (v+r.2.c) with
       |false=>
        rw[hlb]at hI9 hm9;rw[q06 (by simp)];refine .mk _ ws6 lws6 _ _ ⟨sx9',hl9,hcA9,hT9,hw9,hwA9,hI9.op (λx hx=>.inl hx) (λx w ho no _=>?_),by simp at hm9;omega⟩ hv9 hs9;exact q0Q (ho.elim id λz=>nomatch z.1) no
       |true=>
        rw[hlb]at hI9 hm9;rw[q07 rfl];have hwl:=hwA6.1;simp only[q07]at hm9;refine⟨.inl ⟨rfl,_,aR.of hw9⟩,_,hw9,by rw[K3];exact An ⋯,.mk _ (ws6++[tp]) (lws6++[gF q r t]) _ _ ⟨λb o hb h=>?_,?_,?_,?_,?_,(hwA9.mono λb y _ _ h=>h.put hw9).snoc (hk9.put hw9),hI9.op (λx hx=>?_) (λx w ho no _=>?_),?_⟩ hv9 hs9⟩
        ·rw[aq (show b≠lw from λz=>hb (z.trans (hlw0 o (z▸h))))];exact sx9' b o hb h
        ·rw[aq hl2w];exact hl9
        ·exact hcA9.mono λb y _ _ h=>h.put hw9
        ·show aG H9 lw _ d=_
         rw[aq (Ne.symm hlwd)];exact hT9
        ·rw[af,Lc];rfl
        ·rcases hx with hx | hx
         ·exact .inl (.inl hx)
         ·rcases Ld.mp hx with hx | hx
          ·exact .inl (.inr hx)
          ·exact .inr ⟨rfl,K4.mp hx⟩
        ·refine q0Q ?_ no
         rcases ho with(ho | ho) | ho
         ·exact .inl ho
         ·exact .inr (q0D _ ho)
         ·exact .inr (q0C _ (K4.mpr ho.2))
        ·rw[Lm,q0Z];omega
      ·rw[q06 (λh=>e (dD (by injection h)))]
       refine .mk tb6 ws6 lws6 _ _ ⟨sx6.then s7,s7 _ _ hl6,hcA7,hT7,s7 _ _ hw6,hwA7,hI6,hm6⟩ hv6 λr' hr' e'=>?_;rw[htk]at hr';rcases Ld.mp hr' with hr' | hr'
       ·exact hs6 r' hr' e'
       ·rw[K4.mp hr']at e'
        exact q0Q e' e
     ·rintro σ H6 ⟨tb6,ws6,lws6,y8,y9,h6,hv6,hs6⟩
      rw[K3,hrs.1,LB]at hs6;refine .mk tb6 ws6 lws6 _ _ _ _ ⟨h6.sx,h6.l,h6.cA,h6.T,h6.w,h6.wA,h6.I.op (λx hx=>hx.elim (λh=>.inl (by rw[hdr];exact Lg _ h)) .inr) (λx w ho no e=>?_),h6.m⟩;have ex:x=k:=by
       rcases ho with ho | ho
       ·rw[hdr]at ho
        rcases Lf.mp ho with ho | ho
        ·exact ho
        ·exact q0Q (.inl ho) no
       ·exact q0Q (.inr ho) no
      subst ex;rw[hv6]at e;cases e;intro r hr e1 t' ht' e2;obtain⟨v',l',e'⟩:=hs6 r hr e1;have u8:r.2.t.toNat<8:=by have:=(hR r hr).1.t0;have:=(hR r hr).1.t7;omega
      refine⟨v',l',?_⟩;have et:turned q t'=turned q t:=(hO t' ht').inj (hO t ht) (by rw[<- e2,<- ekt]);unfold gF at e' ⊢;rw[<- bF hq a0 c0 ht' u8,et,bF hq a0 c0 ht u8];exact e'
    ·rintro σ H5 ⟨tb5,ws,lws,z5,z7,z8,z9,⟨sx5,hl5,hcA5,hT5,hw5,hwA,hI5,hm5⟩⟩
     refine h1 _ _ ?_;ext;rw[K3,hcA5.1,List.drop_length]at hI5;have hI9:=hI5.op (op':=λk=>k∈lws) (λk hk=>.inr hk) (λk v ho no _=>ho.elim (λz=>nomatch z) λz=>q0Q z no);refine⟨_,?_,.mk tb5 lws lw ws _ _ _ _ _ sx5 hT5 hw5 hwA hI9 ⋯ rfl⟩;cases lws with
     |nil=>rw[q07 rfl];simp at hm5;omega
     |cons _ _=>rw[q06 (by simp)];simp at hm5;omega
theorem oR:∀{as:L5} {rs:Yaa},bI R H as rs->∃tas:List Addr,((as.zip rs).filterMap λx=>if x.2.1=3 then some (V.ref x.1) else none)=tas.map V.ref/\bI R H tas (oi rs)
 | [],[],h=>⟨[],rfl,h⟩
 | [],_::_,h=>nomatch h.1
 |_::_,[],h=>nomatch h.1
 |a::as,r::rs,h=>by
  have h2:bI R H as rs:=⟨Nat.succ.inj h.1,λi b y e1 e2=>h.2 (i+1) b y e1 e2⟩;obtain⟨tas,e,ht⟩:=oR h2;rw[List.zip_cons_cons,q0U]
  by_cases h3:r.1=3
  ·refine⟨a::tas,by simp only[q07 h3];rw[e];rfl,?_⟩
   have et:oi (r::rs)=r::oi rs:=by unfold oi;rw[List.filter_cons,q07 (by simpa using h3)]
   rw[et];refine⟨by rw[Lb,Lb,ht.1],λi b y e1 e2=>?_⟩;cases i with
   |zero=>
    rw[List.getElem?_cons_zero]at e1 e2;cases e1;cases e2
    exact h.2 0 _ _ rfl rfl
   |succ i=>exact ht.2 i b y e1 e2
  ·refine⟨tas,by simp only[q06 h3];exact e,?_⟩
   have et:oi (r::rs)=oi rs:=by unfold oi;rw[List.filter_cons,q06 (by simpa using h3)]
   rw[et];exact ht
theorem qA:∀{as:L5} {rs:Yaa} (k:Nat),as.length=rs.length->(((as.zip rs).zipIdx k).filterMap λx=>if x.1.2.1=3 then none else some (V.int (x.2:Int)))=v4 ((rs.zipIdx k).filterMap λx=>if x.1.1=3 then none else some x.2)
 | [],[],_,_=>rfl
 | [],_::_,_,h=>nomatch h
 |_::_,[],_,h=>nomatch h
 |a::as,r::rs,k,h=>by
  have ih:=qA (as:=as) (rs:=rs) (k+1) (Nat.succ.inj h);rw[List.zip_cons_cons,List.zipIdx_cons,List.zipIdx_cons,q0U,q0U]
  by_cases h3:r.1=3
  ·simp only[q07 h3];exact ih
  ·simp only[q06 h3];rw[ih];rfl
abbrev dR:Stmt:=fC 55
inductive fT(R:RC)(CG:Addr)(vs:List V)(H:Hp)(Q:VK)(_E:XK):Prop
 |mk (g dx a d:Addr) (sg st:LY) (as:L5) (rs:Yaa) (nms:List (List Nat)) (p q:aJ) (r c:Nat) (Sn:aJ->Prop) (dn:L9) (tb:Tb) (_:vs=[.ref g,.ref a,.ref d]) (_:c7 R H CG dx g sg st as rs) (_:(aV (tx st) rs).map (·.1)=nms.map tx) (_:kF rs nms p r c) (_:(∀q,Sn q->xE q)) (_:(∀q,aY p r c q->Sn q)) (_:sQ rs p r c dn q) (_:ES rs nms Sn dn tb) (_:H a=some (.lst (aw q))) (_:b_ H d tb) (_:tb.length<=9900000) (_:∀l H' tb',H' l=some (.lst ((fb q).map V.str))->b_ H' d tb'->(∀dn',(∀z,z∈dn'↔z∈dn\/∃t,t<8/\z=tx (bo (turned q t)))->ES rs nms Sn dn' tb')->tb'.length<=tb.length+1216->aT d H H'->Q (.ref l) H')
theorem kj:aB ["grammar","picture","told","turning","putting","texts","t","cuts"] ["grammar","picture","told"] (ak dR):=by walk_at "c"
theorem kE{f:Addr}(F:dj K "enter_turnings" "enter_turnings" dR f fd)(nb:NB mg)(rk:lW K R)(rk4:BW K R)(cc:jk K CC)(nc:EK K CC){tkT:Tok}(yak:mg "TURNINGS"=some (.int 8 tkT))(zwa:mg "TurnRule"=some (.ref R.ct))(yaw:↑gI 1 CG "rules" ["self"] (gi R CG))(ya3:↑gI 1 CG "names" ["self"] (f_ R CG))(yaL:↑k9 3 "Cuts" CC ["self","picture"] (hX K))(zka:↑dl 3 "turned" ["picture","t"] (je K))(yaV:↑dl 7 "put_together" ["grammar","numbers","cuts","told"] (il R CG CC))(yay:↑dl 2 "turn_about" ["rules","texts","names","told"] (jr R)):↑aS 8 f fd ["grammar","picture","told"] (fT R CG):=by
 have sc:=kj;walk_at "f"
 ·obtain⟨g,dx,a,d,sg,st,as,l,f4,p,q,r,c,Sn,dn,tb,rfl,hG,f9,m,hD,hB,hN,hS,ha,hT,htl,qq⟩:=h
  have hu:=hr.units;refine⟨_,(ae (hZ (i:=3) ["rule"] [] sc.nd rfl (Or.inl rfl) rfl  rfl (bz.of (by kernel_rfl)) (by kernel_rfl) (aW (oK yaw (hr.mono nofun) aL (am 0)))
    (λ_ _ _ _=>(aD (i:=0) (by show(["rule"]:List Str).Nodup;decide +kernel) rfl (Or.inl rfl))) (λ_ _ _ _=>(nh (fU (aN (gn (K:=K) rfl) rfl nb.isinstance bR (ac (am 0) (ac (bZ (v:=.ref _) rfl zwa rfl) ad))) λ_=>rfl))) (λ_ _ _ _=>(am 0)))
   (ae (hZ (i:=4) ["k","rule"] [] sc.nd rfl (Or.inl rfl) rfl  rfl (bz.of (by kernel_rfl)) (by kernel_rfl) (sj rfl nb.enumerate (ac (oK yaw (hr.mono nofun) aL (am 0)) ad))
    (λ_ _ _ _=>(sG (K:=K) (n:=2) rfl rfl (cj (aD (i:=0) (by show(["k","rule"]:List Str).Nodup;decide +kernel) rfl (Or.inl rfl)) (cj (aD (i:=1) (by show(["k","rule"]:List Str).Nodup;decide +kernel) rfl (Or.inl rfl)) gQ)))) (λ_ _ _ _=>(nh (jJ (fU (aN (gn (K:=K) rfl) rfl nb.isinstance bR (ac (am 1) (ac (bZ (v:=.ref _) rfl zwa rfl) ad))) λ_=>rfl)))) (λ_ _ _ _=>(am 0)))
   (ae (q01 5 sc.nd (bA ad))
   (ae (bd PassesOwn.never rfl (bM rfl nb.range (ac (bZ (v:=.int 8) rfl yak ⟨_,rfl⟩) ad)) (q02 6 sc.nd)
   (ae (q01 7 sc.nd (i8 yaL (hr.mono nofun) rfl aL (ac (aI zka (hr.mono nofun) rfl aL (ac (am 1) (ac (am 6) ad))) ad)))
   (ae (bE (aI yaV (hr.mono nofun) rfl aL (ac (am 0) (ac (am 4) (ac (am 7) (ac (am 2) ad))))))
   (ag (bE (gt PySem.F.plainAttrs_list PySem.F.slot_list_append PySem.F.type_list_append dt (am 5) (ac (bw (am 7) rfl) ad)))))))
   (ae (bE (aI yay (hr.mono nofun) rfl aL (ac (am 3) (ac (am 5) (ac (oK ya3 (hr.mono nofun) aL (am 0)) (ac (am 2) ad))))))
   (ag (aH (am 5)))))))),?_⟩
  obtain⟨lk,pn,nt,d4,hgk,z,hgN,hgm⟩:=id hG;have d2:∀x∈l,x.1<4:=λx G=>(m.gd x G).k4;have f8:=m.r24;have c3:=z.1;have c1:(as.zip l).length<=1000000:=by rw[q0N];omega
  symm;refine⟨_,_,d4,rfl,g,dx,sg,st,as,l,rfl,hG,λl1 H1 g2 e1 s1=>?_⟩;refine⟨l1,rfl,⟨_,aR.of e1⟩,?_⟩;refine jC (as:=as.zip l) (emb:=λx=>V.ref x.1) (f:=λx=>if x.2.1=3 then some (V.ref x.1) else none) (λσ=>∃x,σ=[x]) ⟨_,rfl⟩ (λH2 O=>by rw[z.zip.1];exact aR.of (O _ _ e1)) c1 ?_ ?_
  ·rintro j x G σ H2 M1 M0 ⟨x0,rfl⟩ O k1 k0
   have D:=K6 G;obtain⟨f3,rl,a4,_⟩:=(((z.zip.2.2 x D).up s1).up O);have a3:x.2.1<4:=d2 x.2 (by rw[<- z.zip.2.1];exact LK.mpr ⟨x,D,rfl⟩);ext;refine⟨_,(rk.icls x.2.1).ty a4,_,rk4.kit x.2.1 3 a3 nofun,?_⟩
   by_cases M:x.2.1=3
   ·rw[q07 (by simpa using M)]
    exact k1 _ _ _ (by rw[q07 M]) O ⟨_,rfl⟩
   ·rw[q06 (by simpa using M)]
    exact k0 _ _ (by rw[q06 M]) O ⟨_,rfl⟩
  ·intro H2 O l2 d1
   obtain⟨f2,e9,f6⟩:=oR z;rw[e9];refine h1 _ _ ?_;clear h1;generalize T:aG H2 l2 _=H3;obtain⟨s3,e3⟩:=jR d1 T;have sA:=s1.trans (O.trans s3);symm;have e2:=hG.up sA;refine⟨_,_,sA _ _ d4,rfl,g,dx,sg,st,as,l,rfl,e2,λl4 H4 g1 e4 s4=>?_⟩;refine⟨l4,rfl,_,aR.of e4,?_⟩;have sB:=sA.trans s4;refine wZ (as:=as.zip l) (emb:=λx=>V.ref x.1) (f:=λi x=>if x.2.1=3 then none else some (V.int (i:Int))) (λσ=>∃x y,σ=[x,y]) ⟨_,_,rfl⟩ (λH5 J=>by rw[z.zip.1];exact aR.of (J _ _ e4)) c1 ?_ ?_
   ·rintro j x G σ H5 tp M1 M0 ⟨x0,x1,rfl⟩ J f5 k1 k0
    have D:=K6 G;generalize T:aG H5 tp _=H6;obtain⟨Z,e6⟩:=jR f5 T;obtain⟨f3,rl,a4,_⟩:=((((z.zip.2.2 x D).up sB).up J).up Z);have a3:x.2.1<4:=d2 x.2 (by rw[<- z.zip.2.1];exact LK.mpr ⟨x,D,rfl⟩);ext;refine⟨_,gG.of e6,rfl,_,_,rfl,_,_,rfl,rfl,_,(rk.icls x.2.1).ty a4,_,rk4.kit x.2.1 3 a3 nofun,?_⟩
    by_cases M:x.2.1=3
    ·rw[q06 (by simpa using M)]
     exact k0 _ _ (by rw[q07 M]) (J.trans Z) ⟨_,_,rfl⟩
    ·rw[q07 (by simpa using M)]
     exact k1 _ _ _ (by rw[q06 M]) (J.trans Z) ⟨_,_,rfl⟩
   ·intro H5 J l5 c9
    rw[show((as.zip l).zipIdx.filterMap λx=>if x.1.2.1=3 then none else some (V.int (x.2:Int)))=v4 (eD l) from qA 0 c3];refine h1 _ _ ?_;clear h1;generalize T:aG H5 l5 _=H6;obtain⟨Z,e6⟩:=jR c9 T;have sC:=sB.trans (J.trans Z);have h6:=(s4.trans (J.trans Z)) _ _ e3;have c2:=f6.up sC;have e0:=hG.up sC;have g7:=sC _ _ ha;have B:b_ H6 d tb:=hT.up sC;clear Z c9 J s4 e4 g1 sB e2 sA s3 e3 d1 O s1 e1 g2;symm;refine⟨Lo _,λl7 I=>h1 _ _ ?_⟩;clear h1;generalize T:aG H6 l7 _=H7;obtain⟨s7,e7⟩:=jR I T;symm;rw[show Int.toNat 8=8 from rfl];obtain⟨a0,b0,k⟩:=tW m.hp m.r6 m.c6 hN.sq;have d6:=hS.pta m hN;have hpn:(eD l).length<=24:=by
     unfold eD;refine Lv (List.length_filterMap_le _ _) ?_;rw[List.length_zipIdx];exact f8
    have c5:l7≠d:=λe=>by
     rw[e]at I;rw[show H6 d=_ from B]at I;cases I
    refine⟨nofun,bN (lo:=0) (n:=8) (λt σ H8=>aT d H6 H8/\b_ H8 d (pta l (eD l) q tb t)/\H8 l7=some (.lst (((List.range t).map λu=>tx (bo (turned q u))).map V.str))/\∃x6 x7,σ=[some (V.ref g),some (V.ref a),some (V.ref d),some (V.ref l2),some (V.ref l5),some (V.ref l7),x6,x7]) ⟨aT.of s7,B.up s7,e7,_,_,rfl⟩ ?_ ?_⟩
    ·rintro t σ H8 ht ⟨C,L,e8,x6,x7,rfl⟩
     have a2:=C.kp B;have f7:=hN.sq.turned m.hp ht;obtain⟨a1,b1,e5⟩:=tW m.hp m.r6 m.c6 f7;have:=k.r6;have:=k.c6;symm;refine⟨a,q,a0,b0,t,by simp,aR.of (a2.lst g7),k.rc,k.r0,k.c0,⋯,⋯,ht,λlq H9 hlq h4 Y=>?_⟩;intro x a5 G g3 g0;have b3:aA H9 (aG (aG H9 a5 (.own x)) x (.ins CC a5 [])):=(ai g3).trans (ai (by rw[aq (Ne.symm g0)];exact G));refine⟨x,CC,a5,lq,turned q t,a1,b1,rfl,af,cc.cl,nc,b3 _ _ h4,e5,λH3 hC sx=>⟨rfl,h1 _ _ ?_⟩⟩;clear h1;have s3:aA H9 H3:=λy u e=>sx y u (az e G) (b3 y u e);have U:=Y.trans s3;have d5:b_ H3 d (pta l (eD l) q tb t):=L.up U;have a9:=C.then U;have b8:=a9.kp B;have c4:=(d6 t ⋯).len;symm;refine⟨g,dx,l5,x,d,sg,st,as,l,eD l,turned q t,a1,b1,pta l (eD l) q tb t,rfl,e0.kp b8,m.gd,b8.lst e6,λn hn=>(let ⟨r',e',_⟩:=kM.mp hn;(K1.mp e').1),⋯,hC,e5,d5,?_,λH4 h0 a8=>h1 _ _ ?_⟩
     ·have:6*(eD l).length*t<=6*24*8:=Nat.mul_le_mul ⋯ ⋯
      omega
     clear h1;have b5:=a8.kp d5;obtain⟨dxc,lp,lb,la,g4,_⟩:=hC.kp b5;have f0:=b5.lst (U _ _ e8);ext;refine⟨.inl ⟨rfl,_,aR.of f0⟩,_,_,_,g4,cc.cl,nc.2.1,_,rfl,_,f0,by rw[K3,K3,q0J];exact bj ⋯,λb o hb h=>?_,?_,?_⟩
     ·rw[aq (az h I)];exact(a9.trans a8) b o hb h
     ·show aG H4 l7 _ d=_
      rw[aq (Ne.symm c5)];exact h0
     ·rw[af,q0M,Lc,Lc];rfl
    ·rintro σ H8 ⟨C,L,e8,x6,x7,rfl⟩
     refine h1 _ _ ?_;clear h1;ext;have a2:=C.kp B;have d7:=e0.kp a2;obtain⟨lk',pn',nt',d3,_⟩:=id d7;have a6:=d6 8 (Ln _);have c4:=a6.len;have hlen2:6*(eD l).length*8<=6*24*8:=Nat.mul_le_mul ⋯ ⋯;have g9:=ES.start m hB hN hS a6;have hcell:bg q<=6*6:=by
      unfold bg;rw[k.rc.1,bp k.rc k.r0];exact Nat.mul_le_mul k.r6 k.c6
     refine⟨_,_,d3,rfl,g,dx,sg,st,as,l,rfl,d7,λln H9 hln h5 Y=>?_⟩;have a7:=C.then Y;have b4:=a7.kp B;refine⟨l2,l7,ln,d,f2,oi l,l,q,a0,b0,f4,1170*bg q-1161,(pta l (eD l) q tb 8).length,pta l (eD l) q tb 8,rfl,b4.lst h6,c2.kp b4,Y _ _ e8,?_,L.up Y,k.rc,k.r0,k.c0,λt ht=>d9 m.hp m.ns (hN.sq.turned m.hp ht),m.n8,λx G=>⟨m.turn3 G,by simpa using(List.mem_filter.mp G).2⟩,g9,⋯,⋯,λH' f1 h2 S b2=>?_⟩
     ·rw[h5]
      congr 2
      have:=q0R (List.map V.str) f9;rw[Le,Le]at this;exact this
     ·have h64:=S.len64 m.n8
      refine qq l7 H' f1 ((b2.kp (L.up Y)).lst (Y _ _ e8)) h2 (λdn' hd=>ES.enter m hD hB hN hS a6 S hd) ⋯ ((aT.of sC).trans (a7.trans b2))
theorem ES.nil{Sn:aJ->Prop}:ES rs nms Sn [] []:=⟨List.nodup_nil,(λk v h=>nomatch h),(λk v h=>nomatch h),(λz h=>nomatch h),(λq _ h=>nomatch h),(λq _ h=>nomatch h),(λq _ h=>nomatch h)⟩
theorem Be{r c:Nat}(hr:r<=6)(hc:c<=6):64*(dN r c).length<=990000:=by
 have h:∀r,r<7->∀c,c<7->(dN r c).length<=1000:=by decide +kernel
 have:=h r ⋯ c ⋯;omega
structure zC(rs:Yaa)(nms:List (List Nat))(p:aJ)(r c:Nat)(tb:Tb):Prop where
 nd:(tb.map (·.1)).Nodup
 key:∀k v,aK tb k=some v->(∃q,aY p r c q/\k.1=bo q)/\k.2∈nms/\Dv rs k v/\1<=v
 clo:∀q,aY p r c q->HI rs (aK tb) q
 len:tb.length<=9900000
theorem zC.min(E:kF rs nms p r c)(h:zC rs nms p r c tb){q:aJ}(hq:aY p r c q){n:LY}{v:Int}(hv:Dv rs (bo q,n) v):∃v',v'<=v/\aK tb (bo q,n)=some v':=
 uR E.hp E.ns (λx hx=>⟨(E.gd x hx).good.t0,(E.gd x hx).good.t7⟩) h.clo hv q hq rfl
def F2(d e:Addr)(H H':Hp):Prop:=∀b o,b≠d->b≠e->H b=some o->H' b=some o
def vc(dn:L9)(zs:L9):List Str:=zs.foldl ThM.addNew dn
theorem kL{z:Str}:∀{zs dn:L9},z∈vc dn zs↔z∈dn\/z∈zs
 | [],dn=>by simp[vc]
 |y::zs,dn=>by
  show z∈vc (ThM.addNew dn y) zs↔_;rw[kL,ThM.mem_addNew,Lf,or_assoc]
theorem nI:∀(zs dn:L9),(vc dn zs).length<=dn.length+zs.length
 | [],dn=>Ln _
 |y::zs,dn=>by
  have h1:=nI zs (ThM.addNew dn y);have h2:(ThM.addNew dn y).length<=dn.length+1:=by unfold ThM.addNew;split<;>simp
  show(vc (ThM.addNew dn y) zs).length<=_;rw[Lb];omega
theorem uU{z:Str}:z∈fb q↔∃t,t<8/\z=tx (bo (turned q t)):=by
 unfold fb;rw[LK]
 constructor
 ·rintro⟨t,a,rfl⟩;exact⟨t,List.mem_range.mp a,rfl⟩
 ·rintro⟨t,a,rfl⟩;exact⟨t,List.mem_range.mpr a,rfl⟩
theorem ES.new{dn:L9}{Sn:aJ->Prop}{qs:List aJ}{i:Nat}{q:aJ}(E:kF rs nms p r c)(Sb:∀q,aY p r c q->Sn q)(S:ES rs nms Sn dn tb)(hsn:Fi p r c qs)(hi:qs[i]?=some q)(hdn:∀j z,j<i->qs[j]?=some z->tx (bo z)∈dn)(hno:tx (bo q)∉dn):sQ rs p r c dn q:=by
 have a:=(hsn.1 q).mp (K6 hi);obtain⟨a0,b0,g,e,d,_⟩:=a.rect E.hp;refine⟨a,λt b v=>hno ?_,λn k hc=>?_⟩
 ·have:=S.tur _ (Sb _ (a.turned E.hp b)) v (dM t) (kO b)
  rwa [md g e d b]at this
 ·obtain⟨j,o⟩:=List.mem_iff_getElem?.mp ((hsn.1 n).mpr k)
  refine hdn j n ?_ o;obtain⟨Gk,u⟩:=K1.mp hi;obtain⟨l,m⟩:=K1.mp o;rcases Nat.lt_trichotomy j i with h | h | h
  ·exact h
  ·subst h
   rw[u]at m;subst m;omega
  ·have:=List.pairwise_iff_getElem.mp hsn.2 i j Gk l h
   rw[u,m]at this;rcases this with h | ⟨h,_⟩<;>omega
theorem i4{α:Type}[DecidableEq α]:∀{l L:List α},l.Nodup->(∀x∈l,x∈L)->l.length<=L.length
 | [],_,_,_=>Lo _
 |x::l,L,hn,hs=>by
  have hx:x∈L:=hs x q0B;rw[q0c]at hn;have:=i4 (l:=l) (L:=L.erase x) hn.2 λy hy=>(List.mem_erase_of_ne λe=>hn.1 (by rw[<- e];exact hy)).mpr (hs y (Lg _ hy));rw[List.length_erase_of_mem hx]at this;have:=List.length_pos_of_mem hx;rw[Lb];omega
theorem iJ{α β:Type}{f:α->List β}{n:Nat}:∀{l:List α},(∀x,(f x).length=n)->(l.flatMap f).length=l.length*n
 | [],_=>by simp
 |x::l,h=>by rw[List.flatMap_cons,Lm,h x,iJ (l:=l) h,Lb,Nat.add_mul];omega
theorem Cs{qs:List aJ}(h:Fi p r c qs):qs.length<=8*(dN r c).length:=by
 have a:qs.Nodup:=h.2.imp λg e=>by
  subst e;rcases g with h | ⟨_,h⟩
  ·omega
  ·exact q0Q h (List.lt_irrefl _)
 have:=i4 a (L:=(List.range (dN r c).length).flatMap λi=>(List.range 8).map λu=>turned (AX p ((dN r c).getD i [])) u) λq d=>by
  obtain⟨i,j,u,b,e⟩:=qF.mp ((h.1 q).mp d);exact List.mem_flatMap.mpr ⟨i,List.mem_range.mpr j,LK.mpr ⟨u,List.mem_range.mpr b,e.symm⟩⟩
 rw[iJ (n:=8) (λi=>by rw[K3,q0J]),q0J]at this;omega
theorem ES.len{Sn:aJ->Prop}{dn:L9}(S:ES rs nms Sn dn tb)(n8:nms.length<=8):tb.length<=8*dn.length:=by
 have nd:(tb.map λe=>(tx e.1.1,e.1.2)).Nodup:=by
  have:=S.nd;rw[List.nodup_iff_pairwise_ne,List.pairwise_map]at this ⊢;exact this.imp λh e=>h (by
   injection e with e1 e2
   exact Prod.ext (dD e1) e2)
 have:=i4 nd (L:=dn.flatMap λz=>nms.map λn=>(z,n)) λx a=>by
  obtain⟨e,b,rfl⟩:=LK.mp a;obtain⟨h1,h2,_⟩:=S.key e.1 e.2 (BC S.nd b);exact List.mem_flatMap.mpr ⟨_,h1,LK.mpr ⟨_,h2,rfl⟩⟩
 rw[K3,iJ (n:=nms.length) (λi=>by rw[K3])]at this;have h2:=Nat.mul_le_mul_left dn.length n8;omega
abbrev gM:Stmt:=fC 54
inductive fZ(K:W.Frag)(R:RC)(CG:Addr)(vs:List V)(H:Hp)(Q:VK)(_E:XK):Prop
 |mk (g dx a d e:Addr) (sg st:LY) (as:L5) (rs:Yaa) (nms:List (List Nat)) (p:aJ) (r c:Nat) (Sn:aJ->Prop) (dn:L9) (tb:Tb) (H0:Hp) (_:vs=[.ref g,.ref a,.ref d,.ref e]) (_:c7 R H0 CG dx g sg st as rs) (_:aA H0 H) (_:H0 d=none) (_:H0 e=none) (_:(aV (tx st) rs).map (·.1)=nms.map tx) (_:kF rs nms p r c) (_:(∀q,Sn q->xE q)) (_:(∀q,aY p r c q->Sn q)) (_:aR K H a (aw p)) (_:b_ H d tb) (_:H e=some (.dK (ThM.trueD dn))) (_:ES rs nms Sn dn tb) (_:dn.length+64*(dN r c).length<=990000) (_:∀H' dn' tb',b_ H' d tb'->H' e=some (.dK (ThM.trueD dn'))->ES rs nms Sn dn' tb'->dn'.length<=dn.length+64*(dN r c).length->(∀q,aY p r c q->tx (bo q)∈dn')->F2 d e H H'->Q .non H')
theorem qa:aB ["grammar","picture","told","done","seen","text"] ["grammar","picture","told","done"] (ak gM):=by walk_at "c"
theorem ql{f:Addr}(F:dj K "enter_seen" "enter_seen" gM f fd)(nb:NB mg)(yaT:↑dl 4 "seen_in" ["picture"] (nV K))(yab:↑dl 1 "shown" ["picture"] (dJ K))(yaR:↑dl 8 "enter_turnings" ["grammar","picture","told"] (fT R CG)):↑aS 9 f fd ["grammar","picture","told","done"] (fZ K R CG):=by
 have sc:=qa;walk_at "f"
 ·obtain⟨g,dx,a,d,e,sg,st,as,rs,a2,p,r,c,Sn,b2,Z,H0,rfl,hG,s0,c5,c4,c3,m,hD,hB,d1,hT,he,d4,hl0,qq⟩:=h
  have hu:=hr.units;refine⟨_,(ag (bd PassesOwn.never rfl (aW (aI yaT (hr.mono nofun) rfl aL (ac (am 1) ad))) (q02 4 sc.nd)
   (ag (bJ (lI (k_ (LH (LM (by decide:1<=64) _) hu) (aI yab (hr.mono nofun) rfl aL (ac (am 4) ad)) (am 3)) (by with_unfolding_all rfl))
   (ag (bd PassesOwn.never rfl (aW (aI yaR (hr.mono nofun) rfl aL (ac (am 0) (ac (am 4) (ac (am 2) ad))))) (q02 5 sc.nd)
   (ag (r_ (LH (LM (by decide:1<=64) _) hu) (am 3) (am 5) o9 rfl))))
   aP)))),?_⟩
  ext;refine⟨a,p,r,c,rfl,d1,m.hp,m.r0,m.c0,m.r6,m.c6,m.ns,λH1 l Y s1 hl el hz hnd C hzl=>⟨l,rfl,⟨_,aR.of el⟩,?_⟩⟩;have b1:b_ H1 d Z:=hT.up s1;have a7:=s1 _ _ he;have c1:=Cs C;rw[K3]at c1;have b8:aA H0 H1:=s0.trans s1;have a9:d≠e:=λz=>by rw[z]at hT;rw[show H e=_ from hT]at he;cases he
  have b3:∀{H':Hp} {b:Addr} {xs:List V},F2 d e H1 H'->H1 b=some (.lst xs)->H' b=some (.lst xs):=fun{H' b xs} s h=>s b _ (λz=>by rw[z,show H1 d=_ from b1]at h;cases h) (λz=>by rw[z,a7]at h;cases h) h;refine bL (xs:=Y.map λz=>V.ref z.1) (λi σ H2=>F2 d e H1 H2/\i<=Y.length/\(∃(tb:Tb) (k:L9),b_ H2 d tb/\H2 e=some (.dK (ThM.trueD k))/\ES rs a2 Sn k tb/\(∀j z,j<i->(Y.map (·.2))[j]?=some z->tx (bo z)∈k)/\k.length<=b2.length+8*i)/\∃x4 L,σ=[some (V.ref g),some (V.ref a),some (V.ref d),some (V.ref e),x4,L]) ?_ (λi σ H2 _ h=>aR.of (b3 h.1 el)) ?_ ?_
  ·refine⟨λb o _ _ h=>h,Lo _,⟨Z,b2,b1,a7,d4,(λj z h=>q0Q h (Nat.not_lt_zero _)),Ln _⟩,_,_,rfl⟩
  ·rintro i x σ H2 hx ⟨U,_,⟨tb,k,I,n,T,u,a5⟩,x4,L,rfl⟩
   rw[K5]at hx;obtain⟨z,M,rfl⟩:=Lr.mp hx;have hi:=(K1.mp M).1;have c2:=K6 M;have a3:=b3 U (hz z c2).2;have D:(Y.map (·.2))[i]?=some z.2:=by rw[K5,M];rfl
   have sq:=(C.1 z.2).mp (K6 D);obtain⟨a0,b0,d5⟩:=tW m.hp m.r6 m.c6 sq;have a8:tx (bo z.2)∈k->∀j y,j<i+1->(Y.map (·.2))[j]?=some y->tx (bo y)∈k:=λO j y S v=>by
    by_cases ej:j=i
    ·subst ej
     rw[D]at v;cases v
     exact O
    ·exact u j y ⋯ v
   ext;refine⟨z.1,z.2,rfl,a3,d5.small,_,.inl ⟨_,.inr (tx (bo z.2)),.inl n,rfl,rfl⟩,?_⟩;rw[ThM.trueD_val]
   by_cases O:tx (bo z.2)∈k
   ·rw[q06 (by simpa using O)]
    exact⟨U,hi,tb,I,k,n,T,a8 O,⋯⟩
   ·rw[q07 (by simpa using O)]
    have hN:=T.new m hB C D u O;have htl:=T.len m.n8;have b5:aA H0 H2:=λb o h=>U b o (az h c5) (az h c4) (b8 b o h);refine⟨g,dx,z.1,d,sg,st,as,rs,a2,p,z.2,r,c,Sn,k,tb,rfl,hG.up b5,c3,m,hD,hB,hN,T,a3,I,⋯,λl3 H3 b4 J c9 d3 hl3 a1=>⟨l3,rfl,⟨_,aR.of J⟩,?_⟩⟩;have a6:=a1 _ _ (Ne.symm a9) n;have hcl:(fb z.2).length=8:=by unfold fb;rw[K3,q0J]
    refine bL (xs:=(fb z.2).map V.str) (λj σ H4=>aT e H3 H4/\j<=8/\H4 e=some (.dK (ThM.trueD (vc k ((fb z.2).take j))))/\∃L,σ=[some (V.ref g),some (V.ref a),some (V.ref d),some (V.ref e),some (V.ref z.1),L]) ⟨aT.of λ_ _ h=>h,Lo _,a6,_,rfl⟩ (λj σ H4 _ h=>aR.of (h.1 _ _ (λzz=>by rw[zz,a6]at J;cases J) J)) ?_ ?_
    ·rintro j x σ H4 hx ⟨B,_,G,L,rfl⟩
     rw[K5]at hx;obtain⟨y,v,rfl⟩:=Lr.mp hx;have S:j<8:=by have:=(K1.mp v).1;omega
     have a4:=nI ((fb z.2).take j) k;rw[LC]at a4;ext;refine⟨_,.inl ⟨_,.inr y,G,rfl,by rw[ThM.trueD_len];exact bj ⋯,rfl⟩,B.put,S,?_⟩;rw[af,ThM.trueD_put,q0E,v];show _=some (HO.dK (ThM.trueD (List.foldl ThM.addNew k (_++[y]))));rw[List.foldl_append];rfl
    ·rintro σ H4 ⟨B,_,G,L,rfl⟩
     rw[K3,LB]at G;have a4:=nI (fb z.2) k;have d2:=d3 (vc k (fb z.2)) λy=>by rw[kL,uU]
     refine⟨λb o h1 h2 h=>B b o h2 (a1 b o h1 (U b o h1 h2 h)),hi,⟨b4,B _ _ a9 c9,vc k (fb z.2),G,d2,λj y S v=>?_,⋯⟩,_,_,rfl⟩
     by_cases ej:j=i
     ·subst ej
      rw[D]at v;cases v
      exact kL.mpr (.inr (uU.mpr ⟨0,⋯,rfl⟩))
     ·exact kL.mpr (.inl (u j y ⋯ v))
  ·rintro σ H2 ⟨U,_,⟨tb,k,I,n,T,u,a5⟩,x4,L,rfl⟩
   have all:∀q,aY p r c q->tx (bo q)∈k:=λq hq=>by
    obtain⟨j,S⟩:=List.mem_iff_getElem?.mp ((C.1 q).mpr hq);refine u j q ?_ S;have:=(K1.mp S).1
    rwa [K3]at this ⊢
   rw[K3]at a5;exact qq H2 k tb I n T ⋯ all λb o h1 h2 h=>U b o h1 h2 (s1 b o h)
abbrev jW:Stmt:=fC 53
inductive iV(K:W.Frag)(R:RC)(CG:Addr)(vs:List V)(H:Hp)(Q:VK)(_E:XK):Prop
 |mk (g dx a:Addr) (sg st:LY) (as:L5) (rs:Yaa) (nms:List (List Nat)) (p:aJ) (r c:Nat) (_:vs=[.ref g,.ref a]) (_:c7 R H CG dx g sg st as rs) (_:(aV (tx st) rs).map (·.1)=nms.map tx) (_:kF rs nms p r c) (_:aR K H a (aw p)) (_:∀d H' tb,H d=none->b_ H' d tb->zC rs nms p r c tb->aA H H'->Q (.ref d) H')
theorem vP:aB ["grammar","picture","told"] ["grammar","picture"] (ak jW):=by walk_at "c"
theorem vw{f:Addr}(F:dj K "table_of" "table_of" jW f fd)(nb:NB mg)(yap:↑dl 9 "enter_seen" ["grammar","picture","told","done"] (fZ K R CG)):↑aS 10 f fd ["grammar","picture"] (iV K R CG):=by
 have sc:=vP;walk_at "f"
 ·obtain⟨g,dx,a,M,L,as,O,x,p,r,c,rfl,Y,y,i,C,S⟩:=h
  refine⟨_,(ae (q01 2 sc.nd uy)
   (ae (bE (aI yap (hr.mono nofun) rfl aL (ac (am 0) (ac (am 1) (ac (am 2) (ac nJ ad))))))
   (ag (aH (am 2))))),?_⟩
  ext;intro d m e u;have z:H e=none:=(ai (o:=.dT []) m).free u;have l:=ai (o:=.dT []) m;have J:b_ (aG H d (.dT [])) d []:=af;generalize aG H d (.dT [])=H1 at l J u ⊢;have j:=ai (o:=.dK []) u;have I:aG H1 e (.dK []) e=some (.dK []):=af;generalize aG H1 e (.dK [])=H2 at j I ⊢;refine⟨g,dx,a,d,e,M,L,as,O,x,p,r,c,aY p r c,[],[],H,rfl,Y,l.trans j,m,z,y,i,λq h=>d9 i.hp i.ns h,λq h=>h,(l.trans j).seq C,J.up j,I,ES.nil,(by have:=Be i.r6 i.c6;simp only[List.length_nil];omega),λH' dn tb U _ n B all Z=>?_⟩;have T:=Be i.r6 i.c6;have hl:=n.len i.n8;exact S d H' tb m U ⟨n.nd,λk v h=>(n.key k v h).elim λh1 h2=>(n.don _ h1).elim λq G=>⟨⟨q,G.1,dD G.2⟩,h2⟩,λq D=>n.clo q D (all q D),by simp only[List.length_nil]at B T;omega⟩ λb o h=>Z b o (az h m) (az (l b o h) u) (j b o (l b o h))
theorem iW{z:Str}:∀{m:List (Str×List Nat)},z∉m.map (·.1)->m.lookup z=none
 | [],_=>rfl
 |q::m,h=>by
  rw[Lu,Lf,not_or]at h;rw[List.lookup_cons,show(z==q.1)=false from beq_eq_false_iff_ne.mpr h.1];exact iW h.2
theorem yc{y:Str}(h:y∈(aV z rs).map (·.1)):(aV z rs).lookup y=some (jw y rs):=by
 obtain⟨q,a,rfl⟩:=LK.mp h;exact(Eb a).1
abbrev h_:Stmt:=fC 50
inductive jq(R:RC)(CG CN_:Addr)(vs:List V)(H:Hp)(Q:VK)(E:XK):Prop
 |mk (g dx:Addr) (sg st:LY) (as:L5) (rs:Yaa) (v:V) (_:vs=[.ref g,v]) (_:c7 R H CG dx g sg st as rs) (_:((v=.non/\Q (.str (tx st)) H)\/∃z,v=.str z/\(∀ns,(aV (tx st) rs).lookup z=some ns->∀H',aA H H'->Q (.str z) H')/\((aV (tx st) rs).lookup z=none->E (.ref CN_) none H)))
theorem pL:aB ["grammar","name"] ["grammar","name"] (ak h_):=by walk_at "c"
theorem qb{f CN_:Addr}(F:dj K "name_asked" "name_asked" h_ f fd)(nb:NB mg)(cl:io K CG)(na:au K CG "signs"/\au K CG "start"/\au K CG "kept"/\au K CG "numbers")(yan:gI P w K mg base (j8 P w) 1 CG "numbers_of" ["self","name"] (cL R CG CN_)):aS P w K mg base (j8 P w) 2 f fd ["grammar","name"] (jq R CG CN_):=by
 have sc:=pL;walk_at "x"
 ·obtain⟨g,j,c,b,k,d,v,rfl,_⟩:=h;rfl
 ·obtain⟨g,j,c,b,k,d,v,rfl,i,h⟩:=h
  have hu:=hr.units;obtain⟨lk,pn,t,e,hk,hrs,hN,hm⟩:=id i;refine⟨_,(ae (bJ (aU AC (am 1) ow (aX _))
   (ag (aH (bw (am 0) rfl)))
   aP)
   (ae (bE (ke yan (hr.mono nofun) (ly λ_ _ _ h=>h) (am 0) (ac (am 1) ad)))
   (ag (aH (am 1))))),?_⟩
  ext;rcases h with⟨rfl,q⟩ | ⟨z,rfl,o,n⟩
  ·rw[q07 rfl]
   exact⟨_,_,_,e,cl,na.2.1,_,rfl,q⟩
  ·rw[q06 (λh=>nomatch h)]
   exact⟨_,_,e,rfl,g,j,c,b,k,d,z,rfl,i,λns a l p _ _ m=>o ns a p m,n⟩
abbrev gO:Stmt:=fC 52
inductive jt(K:W.Frag)(R:RC)(CG CN_:Addr)(vs:List V)(H:Hp)(Q:VK)(E:XK):Prop
 |mk (g dx a:Addr) (sg st:LY) (as:L5) (rs:Yaa) (nms:List (List Nat)) (p:aJ) (r c:Nat) (v:V) (_:vs=[.ref g,.ref a,v]) (_:c7 R H CG dx g sg st as rs) (_:(aV (tx st) rs).map (·.1)=nms.map tx) (_:kF rs nms p r c) (_:H a=some (.lst (aw p))) (_:((v=.non/\∀H' tb,zC rs nms p r c tb->aA H H'->Q (vb (aK tb (bo p,st))) H')\/∃n,v=.str (tx n)/\(n∈nms->∀H' tb,zC rs nms p r c tb->aA H H'->Q (vb (aK tb (bo p,n))) H')/\(n∉nms->E (.ref CN_) none H)))
theorem qr:aB ["grammar","picture","name","asked"] ["grammar","picture","name"] (ak gO):=by walk_at "c"
theorem pX{f CN_ dT:Addr}(F:Dj K "least_cost" "least_cost" gO f fd dT)(nb:NB mg)(yaS:dl P w K mg base (j8 P w) 2 "name_asked" ["grammar","name"] (jq R CG CN_))(ya9:↑dl 10 "table_of" ["grammar","picture"] (iV K R CG))(yab:↑dl 1 "shown" ["picture"] (dJ K)):aS P w K mg base (j8 P w) 11 f fd ["grammar","picture","name"] (jt K R CG CN_):=by
 have sc:=qr;walk_at "x"
 ·obtain⟨g,M,a,L,k,O,u,i,p,r,c,v,rfl,_⟩:=h;rfl
 ·obtain⟨g,M,a,L,k,O,u,i,p,r,c,v,rfl,Z,j,G,U,h⟩:=h
  have hu:=hr.units;refine⟨_,(ae (q01 3 sc.nd (aI (E:=E) yaS (hr.mono nofun) rfl (ly λ_ _ _ h=>h) (ac (am 0) (ac (am 2) ad))))
   (ag (aH (BF (LH (LM (by decide:1<=64) _) hu) (aI (CX:=j8 P w) ya9.lift (hr.mono nofun) rfl dy (ac (am 0) (ac (am 1) ad))) (b6 (ac (aI (CX:=j8 P w) yab.lift (hr.mono nofun) rfl dy (ac (am 1) ad)) (ac (am 3) ad))) ⟨rfl,rfl,rfl,rfl⟩)))),?_⟩
  ext;have small:eC p:=eC.of G.hp (by have:=G.r6;omega) (by have:=G.c6;omega);have bx:∀(n:LY) (H1:Hp),aA H H1->(∀H' tb,zC u i p r c tb->aA H H'->Q (vb (aK tb (bo p,n))) H')->iV K R CG [V.ref g,V.ref a] H1 (λx b=>∃a_1,x=V.ref a_1/\G7 b a_1/\dJ K [V.ref a] b (λy H1=>2<=sizeLine/\∀(p:Addr),H1 p=none->∃o,kC (aG H1 p (HO.tup [y,V.str (tx n)])) a_1 (V.ref p) o/\Q (o.getD V.non) (aG H1 p (HO.tup [y,V.str (tx n)]))) (λx J I=>False)) (λx J I=>False):=λn H1 l q=>by
   refine⟨g,M,a,L,k,O,u,i,p,r,c,rfl,Z.up l,j,G,aR.of (l _ _ U),λd H2 tb hd Y hB T=>⟨d,rfl,.inr ⟨_,.inl Y⟩,a,p,rfl,(l.trans T) _ _ U,small,av nofun,λS z=>?_⟩⟩;have hk:a_ (aG H2 S (.tup [V.str (tx (bo p)),V.str (tx n)])) S (bo p,n):=af;refine⟨_,(Y.up (ai z)).told.get hk,?_⟩;rw[show((aK tb (bo p,n)).map V.int).getD V.non=vb (aK tb (bo p,n)) by cases aK tb (bo p,n)<;>rfl];exact q _ tb hB ((l.trans T).trans (ai z))
  refine⟨g,M,L,k,O,u,v,rfl,Z,?_⟩;rcases h with⟨rfl,q⟩ | ⟨n,rfl,q1,q2⟩
  ·exact .inl ⟨rfl,bx k H (λ_ _ h=>h) q⟩
  ·refine .inr ⟨tx n,rfl,λns B H1 l=>bx n H1 l (q1 ?_),λC=>q2 ?_⟩
   ·have:tx n∈(aV (tx k) u).map (·.1):=Classical.byContradiction λD=>by rw[iW D]at B;cases B
    rw[j]at this;obtain⟨m,D,e⟩:=LK.mp this;rw[<- dD e];exact D
   ·intro D
    have:tx n∈(aV (tx k) u).map (·.1):=by rw[j];exact LK.mpr ⟨n,D,rfl⟩
    rw[yc this]at C;cases C
abbrev jD:Stmt:=fC 62
inductive mB(vs:List V)(H:Hp)(Q:VK)(_E:XK):Prop
 |mk (z:Str) (r c:Nat) (_:vs=[.str z,.int (r:Int),.int (c:Int)]) (_:z.length<=4) (_:r<=6) (_:c<=6) (_:Q (.int ((z.length ^ (r*c):Nat):Int)) H)
theorem vL:aB ["signs","rows","columns","many","cell"] ["signs","rows","columns"] (ak jD):=by walk_at "c"
theorem uD{f:Addr}(F:dj K "how_many" "how_many" jD f fd)(nb:NB mg):↑aS 1 f fd ["signs","rows","columns"] mB:=by
 have sc:=vL;walk_at "f"
 ·obtain⟨z,r,c,rfl,z4,b,d,q⟩:=h
  have rc:r*c<=36:=Lv (Nat.mul_le_mul b d) nofun;refine⟨_,(ae (q01 3 sc.nd aj)
   (ae (bd PassesOwn.never rfl (bM rfl nb.range (ac (aE (bD.m1 cW) (am 1) (am 2)) ad)) (q02 4 sc.nd)
   (ag (q01 3 sc.nd (aE (bD.m1 cW) (am 3) (aN br rfl nb.len cn (ac (am 0) ad))))))
   (ag (aH (am 3))))),?_⟩
  symm;refine h1 _ _ ?_;grind;rw[<- Int.natCast_mul,K'];refine⟨.inl ⟨⋯,⋯⟩,⋯,⋯,?_⟩;refine bN (lo:=0) (n:=r*c) (λi σ a=>a=H/\∃x,σ=[some (V.str z),some (V.int (r:Int)),some (V.int (c:Int)),some (V.int ((z.length ^ i:Nat):Int)),x]) ⟨rfl,_,rfl⟩ ?_ ?_
  ·rintro i σ a hi ⟨rfl,x,rfl⟩
   ext;refine⟨av ⋯,.inr ⟨⋯,⋯⟩,?_⟩;rw[Nat.pow_succ,Int.natCast_mul]
  ·rintro σ a ⟨rfl,x,rfl⟩
   refine h1 _ _ ?_;ext;exact q
def vR{α:Type}(f:α->α->α)(ls:List α)(e:α):Nat->List α
 |0=>[e]
 |n+1=>(vR f ls e n).flatMap λc=>ls.map (f c)
theorem ka{α:Type}(f:α->α->α)(ls:List α)(e:α):∀n,(vR f ls e n).length=ls.length ^ n
 |0=>rfl
 |n+1=>by
  show((vR f ls e n).flatMap λc=>ls.map (f c)).length=_;rw[iJ (n:=ls.length) (λc=>by rw[K3]),ka f ls e n,Nat.pow_succ]
theorem vj{α:Type}(f:α->α->α)(ls:List α)(e:α)(i j:Nat):(((vR f ls e i).take j).flatMap λc=>ls.map (f c)).length<=ls.length ^ (i+1):=by
 rw[iJ (n:=ls.length) (λc=>by rw[K3]),Nat.pow_succ,<- ka f ls e i];exact Nat.mul_le_mul_right _ (by rw[LC];exact Nat.min_le_right _ _)
theorem E4(r s:LY):tx r++tx s=tx (r++s):=by
 show(⟨(tx r).cps++(tx s).cps⟩:Str)=tx (r++s);unfold tx;simp
abbrev nW:Stmt:=fC 64
abbrev lE(r:LY):V:=.str (tx r)
abbrev jY(H:Hp)(a:Addr)(p:aJ):Prop:=H a=some (.lst (aw p))
theorem B8{as:L5}(h:jY H b p)(l0:0<p.length)(hl:H l=some (.lst (as.map V.ref))):b≠l:=λe=>by
 rw[<- e]at hl;rw[show H b=_ from h]at hl;have e2:aw p=as.map V.ref:=by injection hl with hl;injection hl
 have c:=q0R (λl=>l[0]?) e2;rw[cw l0,K5]at c;cases as with
 |nil=>cases c
 |cons a as=>cases c
theorem aM.both{β:Type}{A:Hp->Addr->β->Prop}{bs:L5}{xs ys:List β}(h1:aM A H as xs)(h2:aM A H bs ys):aM A H (as++bs) (xs++ys):=by
 refine⟨by rw[Lm,Lm,h1.1,h2.1],λi b y c a=>?_⟩
 by_cases d:i<as.length
 ·rw[Ll d]at c
  rw[Ll (by rw[<- h1.1];exact d)]at a;exact h1.2 i b y c a
 ·rw[Lk ⋯]at c
  rw[Lk (by rw[<- h1.1];omega),<- h1.1]at a;exact h2.2 _ b y c a
inductive rp(K:W.Frag)(vs:List V)(H:Hp)(Q:VK)(_E:XK):Prop
 |T (l:Addr) (ls:List (List Nat)) (n:Nat) (_:vs=[.ref l,.int (n:Int),.str (tx [])]) (_:H l=some (.lst (ls.map lE))) (_:n<=6) (_:∀x∈ls,x.length<=1) (_:ls.length<=4) (_:ls.length ^ n<=300) (_:∀l' H',H l'=none->H' l'=some (.lst ((vR (· ++ ·) ls [] n).map lE))->aA H H'->Q (.ref l') H')
 |L (l e:Addr) (ls:List aJ) (as:L5) (n:Nat) (_:vs=[.ref l,.int (n:Int),.ref e]) (_:H l=some (.lst (as.map V.ref))) (_:aM jY H as ls) (_:H e=some (.lst [])) (_:n<=6) (_:∀x∈ls,x.length=1) (_:ls.length ^ n<=300) (_:0<ls.length) (_:∀l' H' bs,H l'=none->H' l'=some (.lst (bs.map V.ref))->aM jY H' bs (vR (· ++ ·) ls [] n)->aA H H'->Q (.ref l') H')
theorem zR:aB ["links","many","nothing","found","step","longer","chain"] ["links","many","nothing"] (ak nW):=by walk_at "c"
theorem zV{f:Addr}(F:dj K "chains" "chains" nW f fd)(nb:NB mg):↑aS 1 f fd ["links","many","nothing"] (rp K):=by
 have sc:=zR;walk_at "f"
 ·rcases h with⟨l,d,n,rfl,hl,n6,O,l4,pw,q⟩ | ⟨l,e,d,as,n,rfl,hl,hA,he,n6,O,pw,l0,q⟩
  ·refine⟨_,(ae (q01 3 sc.nd (bA (ac (am 2) ad)))
   (ae (bd PassesOwn.never rfl (bM rfl nb.range (ac (am 1) ad)) (q02 4 sc.nd)
   (ae (q01 5 sc.nd (bA ad))
   (ae (bd PassesOwn.never rfl (aW (am 3)) (aD (i:=6) sc.nd rfl (Or.inr rfl))
   (ag (bE (gt PySem.F.plainAttrs_list PySem.F.slot_list_extend PySem.F.type_list_extend lZ (am 5) (ac (cq ["link"] [6] rfl (bz.of (by kernel_rfl)) (by kernel_rfl) (aW (am 0))
    (λ_ _ _ _=>(aD (i:=0) (by show(["link","chain"]:List Str).Nodup;decide +kernel) rfl (Or.inl rfl))) (λ_ _ _ _=>cv) (λ_ _ _ _=>(aE jI (am 1) (am 0)))) ad)))))
   (ag (q01 3 sc.nd (am 5))))))
   (ag (aH (am 3))))),?_⟩
   symm;refine⟨av nofun,λl1 Y=>h1 _ _ ?_⟩;clear h1;generalize z0:aG H l1 _=H1;obtain⟨s1,e1⟩:=jR Y z0;symm;refine⟨⋯,⋯,?_⟩;rw[K'];refine bN (lo:=0) (n:=n) (λi σ H'=>∃(M:Addr) (x4 L B:Option V),σ=[some (V.ref l),some (V.int (n:Int)),some (V.str (tx [])),some (V.ref M),x4,L,B]/\H M=none/\H' M=some (.lst ((vR (· ++ ·) d [] i).map lE))/\aA H H'/\∀y∈vR (· ++ ·) d [] i,y.length<=i) ⟨l1,_,_,_,rfl,Y,e1,s1,λy m=>by rw[K4.mp m];exact Lo _⟩ ?_ ?_
   ·rintro i σ H2 hi ⟨M,x4,L,B,rfl,U,G,C,D⟩
    ac_nf;refine⟨Lo _,λJ g=>h2 _ _ ?_⟩;clear h2;generalize z2:aG H2 J _=H3;obtain⟨Z,e3⟩:=jR g z2;have hlen:=ka (· ++ ·) d [] (i+1);have a0:d.length ^ (i+1)<=300\/d.length=0:=by
     rcases Nat.eq_zero_or_pos d.length with h | h
     ·exact .inr h
     ·exact .inl (Lv (Nat.pow_le_pow_right h hi) pw)
    ac_nf;refine⟨⟨_,aR.of (Z _ _ G)⟩,?_⟩;refine bL (xs:=(vR (· ++ ·) d [] i).map lE) (λj σ H'=>∃(L B:Option V),σ=[some (V.ref l),some (V.int (n:Int)),some (V.str (tx [])),some (V.ref M),some (V.int (i:Int)),some (V.ref J),B]/\H' J=some (.lst ((((vR (· ++ ·) d [] i).take j).flatMap λc=>d.map (c ++ ·)).map lE))/\aT J H3 H') ⟨none,_,rfl,e3,aT.of λ_ _ h=>h⟩ (λj σ H' _ h=>by
     obtain⟨_,_,_,_,I⟩:=h;exact aR.of (I _ _ (λe=>by rw[e]at G;rw[g]at G;cases G) (Z _ _ G))) ?_ ?_
    ·rintro j x σ H4 hx ⟨L,B,rfl,e4,I⟩
     rw[K5]at hx;obtain⟨c,R,rfl⟩:=Lr.mp hx;ext;have a7:l≠J:=λe=>by have:=C _ _ hl;rw[e,g]at this;cases this
     have T:=I _ _ a7 (Z _ _ (C _ _ hl));have a8:=D c (K6 R);have hb:=vj (· ++ ·) d [] i j;have hb2:((((vR (· ++ ·) d [] i).take j).flatMap λc=>d.map (c ++ ·)).map lE).length<=300:=by
      rw[K3];rcases a0 with h | h
      ·exact Lv hb h
      ·rw[h,Nat.pow_succ,Nat.mul_zero]at hb;omega
     refine⟨.inl ⟨rfl,_,aR.of e4⟩,⟨_,aR.of T⟩,jC (as:=d) (emb:=lE) (f:=λy=>some (lE (c++y))) (λσ=>∃x,σ=[x,some (lE c)]) ⟨_,rfl⟩ (λH5 v=>aR.of (v _ _ T)) ⋯ ?_ ?_⟩
     ·rintro k y m σ H5 M1 M0 ⟨x0,rfl⟩ v k1 k0
      have a5:=O y (K6 m);ext;refine⟨by rw[aC,aC];exact av ⋯,?_⟩;rw[E4];exact k1 _ _ _ rfl v ⟨_,rfl⟩
     ·intro H5 v l4 r
      have u:=v _ _ e4;have S:J≠l4:=λe=>by rw[e,r]at u;cases u
      have ef:List.filterMap (λy=>some (lE (c++y))) d=(d.map (c ++ ·)).map lE:=by
       rw[Le];exact congrFun (List.filterMap_eq_map (f:=λy=>lE (c++y))) d
      rw[ef];refine⟨_,by rw[aq S];exact u,_,af,?_,?_,((I.then v).then (ai r)).put⟩
      ·refine Lv (LM (Nat.le_of_eq (by rw[K3,K3])) _) (av ⋯)
      ·rw[af,q0E,R,List.flatMap_append,Lc]
       congr 3
       simp
    ·rintro σ H4 ⟨L,B,rfl,e4,I⟩
     refine h2 _ _ ?_;ext;rw[K3,LB]at e4;have s4:aA H H4:=λb o h=>I b o (λe=>by have:=C b o h;rw[e,g]at this;cases this) (Z b o (C b o h));refine⟨C.free g,e4,s4,λy m=>?_⟩;obtain⟨c,R,m⟩:=List.mem_flatMap.mp m;obtain⟨z,hz,rfl⟩:=LK.mp m;have:=D c R;have:=O z hz;rw[Lm];omega
   ·rintro σ H2 ⟨M,x4,L,B,rfl,U,G,C,D⟩
    refine h1 _ _ ?_;ext;exact q _ _ U G C
  ·refine⟨_,(ae (q01 3 sc.nd (bA (ac (am 2) ad)))
   (ae (bd PassesOwn.never rfl (bM rfl nb.range (ac (am 1) ad)) (q02 4 sc.nd)
   (ae (q01 5 sc.nd (bA ad))
   (ae (bd PassesOwn.never rfl (aW (am 3)) (aD (i:=6) sc.nd rfl (Or.inr rfl))
   (ag (bE (gt PySem.F.plainAttrs_list PySem.F.slot_list_extend PySem.F.type_list_extend lZ (am 5) (ac (cq ["link"] [6] rfl (bz.of (by kernel_rfl)) (by kernel_rfl) (aW (am 0))
    (λ_ _ _ _=>(aD (i:=0) (by show(["link","chain"]:List Str).Nodup;decide +kernel) rfl (Or.inl rfl))) (λ_ _ _ _=>cv) (λ_ _ _ _=>(aE Cz (am 1) (am 0)))) ad)))))
   (ag (q01 3 sc.nd (am 5))))))
   (ag (aH (am 3))))),?_⟩
   symm;refine⟨av nofun,λl1 Y=>h1 _ _ ?_⟩;clear h1;generalize z0:aG H l1 _=H1;obtain⟨s1,e1⟩:=jR Y z0;symm;refine⟨⋯,⋯,?_⟩;rw[K'];refine bN (lo:=0) (n:=n) (λi σ H'=>∃(M:Addr) (x4 L B:Option V) (bs:L5),σ=[some (V.ref l),some (V.int (n:Int)),some (V.ref e),some (V.ref M),x4,L,B]/\H M=none/\H' M=some (.lst (bs.map V.ref))/\aM jY H' bs (vR (· ++ ·) d [] i)/\aA H H'/\∀y∈vR (· ++ ·) d [] i,y.length<=i) ⟨l1,_,_,_,[e],rfl,Y,e1,aM.one (s1 _ _ he),s1,λy m=>by rw[K4.mp m];exact Lo _⟩ ?_ ?_
   ·rintro i σ H2 hi ⟨M,x4,L,B,bs,rfl,U,G,b2,C,D⟩
    ac_nf;refine⟨Lo _,λJ g=>h2 _ _ ?_⟩;clear h2;generalize z2:aG H2 J _=H3;obtain⟨Z,e3⟩:=jR g z2;have a0:d.length ^ (i+1)<=300:=Lv (Nat.pow_le_pow_right l0 hi) pw;have hll:d.length<=300:=by
     have:=Nat.pow_le_pow_right l0 (show 1<=i+1 by omega);rw[Nat.pow_one]at this;omega
    ac_nf;refine⟨⟨_,aR.of (Z _ _ G)⟩,?_⟩;refine bL (xs:=bs.map V.ref) (λj σ H'=>∃(L B:Option V) (cs:L5),σ=[some (V.ref l),some (V.int (n:Int)),some (V.ref e),some (V.ref M),some (V.int (i:Int)),some (V.ref J),B]/\H' J=some (.lst (cs.map V.ref))/\aM jY H' cs (((vR (· ++ ·) d [] i).take j).flatMap λc=>d.map (c ++ ·))/\aT J H3 H') ⟨none,_,[],rfl,e3,aM.nil,aT.of λ_ _ h=>h⟩ (λj σ H' _ h=>by
     obtain⟨_,_,_,_,_,_,I⟩:=h;exact aR.of (I _ _ (λe=>by rw[e]at G;rw[g]at G;cases G) (Z _ _ G))) ?_ ?_
    ·rintro j x σ H4 hx ⟨L,B,cs,rfl,e4,b4,I⟩
     rw[K5]at hx;obtain⟨b,a9,rfl⟩:=Lr.mp hx;obtain⟨c,R,a1⟩:=b2.get a9;ext;have s4:aA H H4:=λb o h=>I b o (λe=>by have:=C b o h;rw[e,g]at this;cases this) (Z b o (C b o h));have T:=s4 _ _ hl;have a4:jY H4 b c:=I _ _ (λe=>by rw[e]at a1;rw[show H2 J=_ from a1]at g;cases g) (Z _ _ a1);have a8:=D c (K6 R);have hb:=vj (· ++ ·) d [] i j;refine⟨.inl ⟨rfl,_,aR.of e4⟩,⟨_,aR.of T⟩,g8 jY (λh s=>s _ _ h) (as:=as) (emb:=V.ref) (ys:=d.map (c ++ ·)) (by rw[K3];exact hA.1) (λσ=>∃x,σ=[x,some (V.ref b)]) ⟨_,rfl⟩ (λH5 v=>aR.of (v _ _ T)) (by rw[hA.1];omega) ?_ ?_⟩
     ·rintro k a z ha hz σ H5 M1 M0 ⟨x0,rfl⟩ v k1
      rw[K5]at hz;obtain⟨y,m,rfl⟩:=Lr.mp hz;have a5:=O y (K6 m);have a6:=v _ _ (s4 _ _ (hA.2 k a y ha m));have a3:=v _ _ a4;ext;refine⟨_,a3,_,a6,by rw[ax,ax];exact av ⋯,λp hp=>?_⟩;exact k1 p _ _ (by show aG _ _ _ _=_;rw[af];unfold aw;rw[Lc]) (v.trans (ai hp)) (ai hp) ⟨_,rfl⟩
     ·intro ds H5 v hD l4 r
      have u:=v _ _ e4;have S:J≠l4:=λe=>by rw[e,r]at u;cases u
      have a2:∀y∈(vR (· ++ ·) d [] i).flatMap (λc=>d.map (c ++ ·)),0<y.length:=λy m=>by
       obtain⟨c,_,m⟩:=List.mem_flatMap.mp m;obtain⟨z,hz,rfl⟩:=LK.mp m;rw[Lm,O z hz];omega
      have keep:∀{b:Addr} {y:aJ},jY H5 b y->0<y.length->jY (aG (aG H5 l4 (.lst (ds.map V.ref))) J (.lst (cs.map V.ref++ds.map V.ref))) b y:=fun{b y} h h0=>by
       show aG _ _ _ _=_;rw[aq (B8 h h0 u),aq (λe=>by rw[e]at h;rw[show H5 l4=_ from h]at r;cases r)];exact h
      refine⟨_,by rw[aq S];exact u,_,af,?_,cs++ds,by rw[af,Lc],?_,((I.then v).then (ai r)).put⟩
      ·rw[K3,K3,b4.1,hD.1,K3];exact av ⋯
      ·rw[q0E,R,List.flatMap_append]
       refine aM.both (b4.mono λb y _ m h=>keep (v _ _ h) (a2 y ?_)) ?_
       ·obtain⟨c,R,m⟩:=List.mem_flatMap.mp m
        exact List.mem_flatMap.mpr ⟨c,q0H R,m⟩
       ·have e:List.flatMap (λc=>d.map (c ++ ·)) (some c).toList=d.map (c ++ ·):=by simp
        rw[e];exact hD.mono λb y _ m h=>keep h (a2 y (List.mem_flatMap.mpr ⟨c,K6 R,m⟩))
    ·rintro σ H4 ⟨L,B,cs,rfl,e4,b4,I⟩
     refine h2 _ _ ?_;ext;rw[K3,b2.1,LB]at b4;have s4:aA H H4:=λb o h=>I b o (λe=>by have:=C b o h;rw[e,g]at this;cases this) (Z b o (C b o h));refine⟨C.free g,cs,e4,b4,s4,λy m=>?_⟩;obtain⟨c,R,m⟩:=List.mem_flatMap.mp m;obtain⟨z,hz,rfl⟩:=LK.mp m;have:=D c R;have:=O z hz;rw[Lm];omega
   ·rintro σ H2 ⟨M,x4,L,B,bs,rfl,U,G,b2,C,D⟩
    refine h1 _ _ ?_;ext;exact q _ _ _ U G b2 C
def ju(ss:LY)(c:Nat):List (List Nat):=vR (· ++ ·) (ss.map λs=>[s]) [] c
def qm(ss:LY)(r c:Nat):List aJ:=vR (· ++ ·) ((ju ss c).map λt=>[t]) [] r
theorem k8(ss:LY)(c:Nat):(ju ss c).length=ss.length ^ c:=by unfold ju;rw[ka,K3]
theorem vM(ss:LY)(r c:Nat):(qm ss r c).length=ss.length ^ (c*r):=by unfold qm;rw[ka,K3,k8,<- Nat.pow_mul]
theorem jb{ss:LY}{x:LY}:∀{c:Nat},x∈ju ss c↔x.length=c/\∀s∈x,s∈ss
 |0=>by
  show x∈[[]]↔_;rw[K4]
  constructor
  ·rintro rfl;exact⟨rfl,λs h=>nomatch h⟩
  ·rintro⟨h,_⟩;exact LJ.mp h
 |c+1=>by
  show x∈(ju ss c).flatMap (λt=>(ss.map λs=>[s]).map (t ++ ·))↔_;rw[List.mem_flatMap]
  constructor
  ·rintro⟨t,ht,hx⟩
   obtain⟨_,hs,rfl⟩:=LK.mp hx;obtain⟨s,hs2,rfl⟩:=LK.mp hs;obtain⟨h1,h2⟩:=jb.mp ht;refine⟨by rw[Lm,h1];rfl,λy hy=>?_⟩;rcases Ld.mp hy with h | h
   ·exact h2 y h
   ·rw[K4.mp h];exact hs2
  ·rintro⟨h1,h2⟩
   have h0:x≠[]:=λe=>by rw[e]at h1;cases h1
   refine⟨x.dropLast,jb.mpr ⟨by rw[List.length_dropLast,h1];rfl,λs hs=>h2 s ((List.dropLast_sublist _).subset hs)⟩,LK.mpr ⟨[x.getLast h0],LK.mpr ⟨_,h2 _ (List.getLast_mem h0),rfl⟩,List.dropLast_concat_getLast h0⟩⟩
theorem iQ{ss:LY}{p:aJ}:∀{r:Nat},p∈qm ss r c↔rect p r c/\∀x∈p,∀s∈x,s∈ss
 |0=>by
  show p∈[[]]↔_;rw[K4]
  constructor
  ·rintro rfl;exact⟨⟨rfl,λx h=>nomatch h⟩,λx h=>nomatch h⟩
  ·rintro⟨h,_⟩;exact LJ.mp h.1
 |r+1=>by
  show p∈(qm ss r c).flatMap (λt=>((ju ss c).map λt=>[t]).map (t ++ ·))↔_;rw[List.mem_flatMap]
  constructor
  ·rintro⟨t,ht,hx⟩
   obtain⟨_,hs,rfl⟩:=LK.mp hx;obtain⟨s,hs2,rfl⟩:=LK.mp hs;obtain⟨h1,h2⟩:=iQ.mp ht;obtain⟨h3,h4⟩:=jb.mp hs2;refine⟨⟨by rw[Lm,h1.1];rfl,λy hy=>?_⟩,λy hy=>?_⟩
   ·rcases Ld.mp hy with h | h
    ·exact h1.2 y h
    ·rw[K4.mp h];exact h3
   ·rcases Ld.mp hy with h | h
    ·exact h2 y h
    ·rw[K4.mp h];exact h4
  ·rintro⟨h1,h2⟩
   have h0:p≠[]:=λe=>by have:=h1.1;rw[e]at this;cases this
   refine⟨p.dropLast,iQ.mpr ⟨⟨by rw[List.length_dropLast,h1.1];rfl,λx hx=>h1.2 x ((List.dropLast_sublist _).subset hx)⟩,λx hx=>h2 x ((List.dropLast_sublist _).subset hx)⟩,LK.mpr ⟨[p.getLast h0],LK.mpr ⟨_,jb.mpr ⟨h1.2 _ (List.getLast_mem h0),h2 _ (List.getLast_mem h0)⟩,rfl⟩,List.dropLast_concat_getLast h0⟩⟩
theorem DX{zs:L9}(h:zs.Perm ((tx sg).cps.toList.map λc=>(⟨#[c]⟩:Str)))(hs:zs.Pairwise λa b=>¬ b.cps.toList<a.cps.toList):∃ss:List Nat,zs=ss.map (λc=>(⟨#[c]⟩:Str))/\ss.Perm sg/\ss.Pairwise (·<=·):=by
 rw[dg]at h;have d:zs=(zs.map λz=>z.cps.toList.headD 0).map λc=>(⟨#[c]⟩:Str):=by
  rw[Le];refine(List.map_id _).symm.trans (q0K λz e=>?_);obtain⟨c,_,rfl⟩:=LK.mp (h.mem_iff.mp e)
  rfl
 refine⟨zs.map λz=>z.cps.toList.headD 0,d,?_,?_⟩
 ·refine(h.map _).trans ?_
  rw[Le];exact List.Perm.of_eq ((q0K λc _=>rfl).trans (List.map_id _))
 ·rw[d,List.pairwise_map]at hs
  rw[List.pairwise_map]at hs ⊢;refine hs.imp fun{a b} hab=>?_;have:¬ [b.cps.toList.headD 0]<[a.cps.toList.headD 0]:=hab;rw[List.cons_lt_cons_iff]at this;omega
abbrev fB:Stmt:=fC 63
inductive ie(K:W.Frag)(vs:List V)(H:Hp)(Q:VK)(_E:XK):Prop
 |mk (sg:LY) (r c:Nat) (_:vs=[.str (tx sg),.int (r:Int),.int (c:Int)]) (_:1<=r) (_:r<=6) (_:1<=c) (_:c<=6) (_:1<=sg.length) (_:sg.length<=4) (_:sg.length ^ (r*c)<=300) (_:∀l' H' bs ss,H l'=none->ss.Perm sg->ss.Pairwise (·<=·)->H' l'=some (.lst (bs.map V.ref))->aM jY H' bs (qm ss r c)->aA H H'->Q (.ref l') H')
theorem mM:aB ["signs","rows","columns","texts"] ["signs","rows","columns"] (ak fB):=by walk_at "c"
theorem mV{f:Addr}(F:dj K "all_pictures" "all_pictures" fB f fd)(nb:NB mg){tkM:Tok}(yav:mg "MOST"=some (.int 6 tkM))(yau:↑dl 1 "chains" ["links","many","nothing"] (rp K)):↑aS 2 f fd ["signs","rows","columns"] (ie K):=by
 have sc:=mM;walk_at "f"
 ·obtain⟨n,r,c,rfl,r1,r6,c1,c6,g1,g4,U,q⟩:=h
  have hu:=hr.units;refine⟨_,(ae (bJ (jJ (PW.pt (tG (uT (bD.m0 kR) (bD.m0 kR) aj (am 1) (bZ (v:=.int 6) rfl yav ⟨_,rfl⟩)) (nk (uT (bD.m0 kR) (bD.m0 kR) aj (am 2) (bZ (v:=.int 6) rfl yav ⟨_,rfl⟩))))))
   (ag (aH (bA ad)))
   aP)
   (ae (q01 3 sc.nd (aI yau (hr.mono nofun) rfl aL (ac (aN (xc rfl) rfl nb.sorted zX (ac (am 0) ad)) (ac (am 2) (cV ad)))))
   (ag (aH (aI yau (hr.mono nofun) rfl aL (ac (cq ["text"] [] rfl (bz.of (by kernel_rfl)) (by kernel_rfl) (aW (am 3))
    (λ_ _ _ _=>(aD (i:=0) (by show(["text"]:List Str).Nodup;decide +kernel) rfl (Or.inl rfl))) (λ_ _ _ _=>cv) (λ_ _ _ _=>(bA (ac (am 0) ad)))) (ac (am 1) (ac (bA ad) ad)))))))),?_⟩
  symm;rw[q07 ⋯,q07 ⋯,q07 ⋯,q06 ⋯];refine h1 _ _ ?_;grind;refine⟨by rw[aC];exact av ⋯,λzs C B Z M=>?_⟩;obtain⟨d,rfl,m,hs⟩:=DX C B;generalize z0:aG H Z _=H1;obtain⟨u,e1⟩:=jR M z0;have e:d.length=n.length:=m.length_eq;have O:c*r=r*c:=Nat.mul_comm _ _;have pc:n.length ^ c<=300:=Lv (Nat.pow_le_pow_right g1 (by have:=Nat.mul_le_mul_right c r1;omega)) U;refine .T Z (d.map λs=>[s]) c rfl (by rw[e1,Le,Le];rfl) c6 (λx D=>by obtain⟨s,_,rfl⟩:=LK.mp D;exact Ln _) (by rw[K3];omega) (by rw[K3,e];exact pc) λl2 H2 J e2 s2=>?_;have hl20:=u.free J;refine h1 _ _ ?_;clear h1;ext;refine⟨⟨_,aR.of e2⟩,g8 jY (λh s=>s _ _ h) (as:=ju d c) (emb:=lE) (ys:=(ju d c).map λt=>[t]) (by rw[K3]) (λσ=>∃x,σ=[x]) ⟨_,rfl⟩ (λR g=>aR.of (g _ _ e2)) (by rw[k8,e];omega) ?_ ?_⟩
  ·rintro k t z ht hz σ R M1 M0 ⟨x0,rfl⟩ g k1
   rw[K5,ht]at hz;cases hz;ext;refine⟨av nofun,λp m=>?_⟩;exact k1 p _ _ af (g.trans (ai m)) (ai m) ⟨_,rfl⟩
  ·intro ds R g hD Y I
   refine⟨Lo _,λp l=>?_⟩;generalize z1:aG R Y _=H6 at l ⊢;obtain⟨S,e6⟩:=jR I z1;generalize z2:aG H6 p _=H7;obtain⟨o,e7⟩:=jR l z2;have j:aA H1 H7:=s2.trans (g.trans (S.trans o));have a:((ju d c).map λt=>[t]).length=n.length ^ c:=by rw[K3,k8,e]
   refine .L Y p ((ju d c).map λt=>[t]) ds r rfl (o _ _ e6) (hD.mono λb y _ _ h=>o _ _ (S _ _ h)) e7 r6 (λx D=>by obtain⟨t,_,rfl⟩:=LK.mp D;rfl) (by rw[a,<- Nat.pow_mul,O];exact U) (by rw[a];exact Nat.pow_pos g1) λl5 H8 bs G e8 b8 s8=>?_;exact q l5 H8 bs d (u.free (j.free G)) m hs e8 b8 (u.trans (j.trans s8))
def Mn(rs:Yaa)(k:Ky)(v:Int):Prop:=Dv rs k v/\∀v',Dv rs k v'->v<=v'
inductive xX(rs:Yaa)(nm:LY):List aJ->List (aJ×Int)->Prop
 |nil:xX rs nm [] []
 |hit {ps fs} (p v) (_:xX rs nm ps fs) (_:Mn rs (bo p,nm) v):xX rs nm (ps++[p]) (fs++[(p,v)])
 |miss {ps fs} (p) (_:xX rs nm ps fs) (_:∀v,¬ Dv rs (bo p,nm) v):xX rs nm (ps++[p]) fs
theorem xX.len{nm:LY}{ps:List aJ}{fs:List (aJ×Int)}(h:xX rs nm ps fs):fs.length<=ps.length:=by
 induction h with
 |nil=>exact Ln _
 |hit p v _ _ ih=>rw[Lm,Lm];simpa using ih
 |miss p _ _ ih=>rw[Lm];omega
theorem xX.mem{nm:LY}{ps:List aJ}{fs:List (aJ×Int)}(h:xX rs nm ps fs):∀y∈fs,y.1∈ps:=by
 induction h with
 |nil=>intro y h;exact nomatch h
 |hit p v _ _ ih=>
  intro y a;rcases Ld.mp a with h | h
  ·exact Ld.mpr (.inl (ih y h))
  ·rw[K4.mp h];exact Ld.mpr (.inr q0B)
 |miss p _ _ ih=>intro y a;exact Ld.mpr (.inl (ih y a))
def rZ(H:Hp)(t:Addr)(x:aJ×Int):Prop:=∃b,H t=some (.tup [.ref b,.int x.2])/\jY H b x.1
theorem rZ.up{t:Addr}(h:rZ H t x)(s:aA H H'):rZ H' t x:=let ⟨b,h1,h2⟩:=h;⟨b,s _ _ h1,s _ _ h2⟩
structure DO(rs:Yaa)(nms:List (List Nat))(sg:LY)(r c:Nat):Prop where
 r1:1<=r
 r6:r<=6
 c1:1<=c
 c6:c<=6
 g1:1<=sg.length
 g4:sg.length<=4
 sl:∀s∈sg,s≠47
 gd:∀x∈rs,kJ x
 nm:∀x∈rs,x.2.n∈nms
 n8:nms.length<=8
 r24:rs.length<=24
theorem DP{g r c:Nat}(hg:g<=4)(hr:r<=6)(hc:c<=6)(h:g ^ (r*c)<=300):g ^ (r*c)*(64*(dN r c).length)<=990000:=by
 have:∀g,g<5->∀r,r<7->∀c,c<7->g ^ (r*c)<=300->g ^ (r*c)*(64*(dN r c).length)<=990000:=by decide +kernel
 exact this g ⋯ r ⋯ c ⋯ h
abbrev fX:Stmt:=fC 61
inductive fe(K:W.Frag)(R:RC)(CG CN_ CM:Addr)(vs:List V)(H:Hp)(Q:VK)(E:XK):Prop
 |mk (g dx:Addr) (sg st nm:LY) (as:L5) (rs:Yaa) (nms:List (List Nat)) (r c:Nat) (_:vs=[.ref g,.str (tx nm),.int (r:Int),.int (c:Int)]) (_:c7 R H CG dx g sg st as rs) (_:(aV (tx st) rs).map (·.1)=nms.map tx) (_:DO rs nms sg r c) (_:(nm∉nms->E (.ref CN_) none H)) (_:(nm∈nms->300<sg.length ^ (r*c)->∀H',aA H H'->E (.ref CM) none H')) (_:(nm∈nms->sg.length ^ (r*c)<=300->∀l H' ts fs ss,H l=none->ss.Perm sg->ss.Pairwise (·<=·)->xX rs nm (qm ss r c) fs->H' l=some (.lst (ts.map V.ref))->aM rZ H' ts fs->aA H H'->Q (.ref l) H'))
theorem og:aB ["grammar","name","rows","columns","found","told","done","picture","key"] ["grammar","name","rows","columns"] (ak fX):=by walk_at "c"
theorem oj{f CN_ CM:Addr}(F:dj K "pictures_of" "pictures_of" fX f fd)(nb:NB mg)(cl:io K CG)(na:au K CG "signs"/\au K CG "start"/\au K CG "kept"/\au K CG "numbers"){tkM:Tok}(yaF:mg "MOST_PICTURES"=some (.int 300 tkM))(yaq:mg "TooMany"=some (.ref CM))(yaQ:XR K CM)(yan:gI P w K mg base (j8 P w) 1 CG "numbers_of" ["self","name"] (cL R CG CN_))(yaB:↑dl 1 "how_many" ["signs","rows","columns"] mB)(ya4:↑dl 2 "all_pictures" ["signs","rows","columns"] (ie K))(yap:↑dl 9 "enter_seen" ["grammar","picture","told","done"] (fZ K R CG))(yab:↑dl 1 "shown" ["picture"] (dJ K)):aS P w K mg base (j8 P w) 10 f fd ["grammar","name","rows","columns"] (fe K R CG CN_ CM):=by
 have sc:=og;walk_at "x"
 ·obtain⟨g,dx,L,st,nm,as,Z,M,r,c,rfl,_⟩:=h;rfl
 ·obtain⟨g,dx,L,st,nm,as,Z,M,r,c,rfl,hG,b1,a,qN,qM,q⟩:=h
  have hu:=hr.units;obtain⟨lk,pn,t,ha,hk,hrs,hN,hm⟩:=id hG;refine⟨_,(ae (bE (ke yan (hr.mono nofun) (ly λ_ _ _ h=>h) (am 0) (ac (am 1) ad)))
   (ae (bJ (aU (bD.m0 mh) (aI (CX:=j8 P w) yaB.lift (hr.mono nofun) rfl dy (ac (bw (am 0) rfl) (ac (am 2) (ac (am 3) ad)))) (bZ (v:=.int 300) rfl yaF ⟨_,rfl⟩) (aX _))
   (ag (ri yaQ rfl rfl yaq (vt λ_ _ _ h=>h) (cV ad)))
   aP)
   (ae (q01 4 sc.nd (bA ad))
   (ae (q01 5 sc.nd uy)
   (ae (q01 6 sc.nd nJ)
   (ae (bd PassesOwn.leaving rfl (aW (aI (CX:=j8 P w) ya4.lift (hr.mono nofun) rfl dy (ac (bw (am 0) rfl) (ac (am 2) (ac (am 3) ad))))) (q02 7 sc.nd)
   (ae (bE (aI (CX:=j8 P w) yap.lift (hr.mono nofun) rfl dy (ac (am 0) (ac (am 7) (ac (am 5) (ac (am 6) ad))))))
   (ae (q01 8 sc.nd (b6 (ac (aI (CX:=j8 P w) yab.lift (hr.mono nofun) rfl dy (ac (am 7) ad)) (ac (am 1) ad))))
   (ag (bJ (lI (xP (LH (LM (by decide:1<=64) _) hu) (am 8) (am 5)) (by with_unfolding_all rfl))
   (ag (bE (gt PySem.F.plainAttrs_list PySem.F.slot_list_append PySem.F.type_list_append dt (am 4) (ac (b6 (ac (am 7) (ac (kx (LH (LM (by decide:1<=64) _) hu) (am 5) (am 8) (λ_ _=>rfl)) ad))) ad))))
   aP)))))
   (ag (aH (am 4))))))))),?_⟩
  symm;refine⟨_,_,ha,rfl,g,dx,L,st,as,Z,tx nm,rfl,hG,λns e2 l0 H1 _ _ s1=>?_,λe3=>qN λhm=>?_⟩
  ·have e4:nm∈M:=by
    have:tx nm∈(aV (tx st) Z).map (·.1):=Classical.byContradiction λhm=>by rw[iW hm]at e2;cases e2
    rw[b1]at this;obtain⟨m,hm,e⟩:=LK.mp this;rw[<- dD e];exact hm
   refine h1 _ _ ?_;clear h1;have f0:=s1 _ _ ha;symm;refine⟨_,_,_,f0,cl,na.1,_,rfl,tx L,r,c,rfl,by rw[aC];exact a.g4,a.r6,a.c6,_,rfl,?_⟩;rw[aC]
   by_cases n:300<L.length ^ (r*c)
   ·rw[q07 (by exact_mod_cast n)]
    exact⟨av nofun,qM e4 n H1 s1⟩
   rw[q06 (by intro h;exact n (by exact_mod_cast h))];have b0:L.length ^ (r*c)<=300:=Nat.le_of_not_lt n;have q:=q e4 b0;refine h1 _ _ ?_;grind;refine⟨Lo _,λk a2=>h1 _ _ ?_⟩;clear h1;generalize z2:aG H1 k _=H2;obtain⟨s2,f3⟩:=jR a2 z2;symm;refine λd hd=>h1 _ _ ?_;clear h1;generalize z3:aG H2 d _=H3;obtain⟨s3,h6⟩:=jR hd z3;symm;refine λe he=>h1 _ _ ?_;clear h1;generalize z4:aG H3 e _=H4;obtain⟨s4,h5⟩:=jR he z4;have c4:aA H1 H4:=s2.trans (s3.trans s4);symm;refine⟨_,_,_,c4 _ _ f0,cl,na.1,_,rfl,L,r,c,rfl,a.r1,a.r6,a.c1,a.c6,a.g1,a.g4,b0,λl5 H5 bs ss b3 a8 f5 G b5 s5=>⟨l5,rfl,⟨_,aR.of G⟩,?_⟩⟩;have f9:ss.length=L.length:=a8.length_eq;have hN:(qm ss r c).length=L.length ^ (r*c):=by rw[vM,f9,Nat.mul_comm]
   have hW:L.length ^ (r*c)*(64*(dN r c).length)<=990000:=DP a.g4 a.r6 a.c6 b0;generalize e0:qm ss r c=ps at b5 hN q;have j:∀p∈ps,rect p r c/\bB p:=λp hp=>by
    rw[<- e0]at hp;obtain⟨h1,h2⟩:=iQ.mp hp;exact⟨h1,λf7 d7 h0=>a.sl 47 (a8.mem_iff.mp (h2 f7 d7 47 h0)) rfl⟩
   have g9:∀p∈ps,kF Z M p r c:=λp hp=>⟨(j p hp).1,a.r1,a.c1,a.r6,a.c6,(j p hp).2,a.gd,a.nm,a.n8,a.r24⟩;have hD:∀q,(∃p∈ps,aY p r c q)->xE q:=λq ⟨p,hp,h⟩=>d9 (j p hp).1 (j p hp).2 h;have l:H5 d=some (.dT []):=s5 _ _ (s4 _ _ h6);have J:H5 e=some (.dK []):=s5 _ _ h5;have I:H5 k=some (.lst []):=s5 _ _ (s4 _ _ (s3 _ _ f3));have d1:H1 d=none:=s2.free hd;have e1:H1 e=none:=(s2.trans s3).free he;have c3:aA H1 H5:=c4.trans s5;have d3:k≠d:=λz=>by rw[z,l]at I;cases I
   have d2:k≠e:=λz=>by rw[z,J]at I;cases I
   have nde:d≠e:=λz=>by rw[z,J]at l;cases l
   have fr:∀{b:Addr} {p:aJ},jY H5 b p->p∈ps->b≠d/\b≠e/\b≠k:=fun{b p} h hp=>by
    refine⟨λz=>?_,λz=>?_,λz=>?_⟩
    ·rw[z]at h;rw[show H5 d=_ from h]at l;cases l
    ·rw[z]at h;rw[show H5 e=_ from h]at J;cases J
    ·exact B8 (as:=[]) h (by rw[(j p hp).1.1];exact a.r1) I z
   refine bL (xs:=bs.map V.ref) (λi σ H'=>∃(x7 x8:Option V) (tb:Tb) (dn:L9) (U:L5) (fs:List (aJ×Int)),σ=[some (V.ref g),some (V.str (tx nm)),some (V.int (r:Int)),some (V.int (c:Int)),some (V.ref k),some (V.ref d),some (V.ref e),x7,x8]/\b_ H' d tb/\H' e=some (.dK (ThM.trueD dn))/\ES Z M (λq=>∃p∈ps,aY p r c q) dn tb/\dn.length<=i*(64*(dN r c).length)/\H' k=some (.lst (U.map V.ref))/\aM rZ H' U fs/\xX Z nm (ps.take i) fs/\∀b o,b≠d->b≠e->b≠k->H5 b=some o->H' b=some o) ⟨_,_,[],[],[],[],rfl,l,J,ES.nil,Lo _,I,aM.nil,.nil,λ_ _ _ _ _ h=>h⟩ (λi σ H' _ h=>?_) ?_ ?_
   ·obtain⟨_,_,_,_,_,_,_,_,_,_,_,_,_,_,kp⟩:=h
    exact aR.of (kp _ _ (λz=>by rw[z,l]at G;cases G) (λz=>by rw[z,J]at G;cases G) (λz=>by
     rw[z]at b3;rw[s4 _ _ (s3 _ _ f3)]at b3;cases b3) G)
   ·rintro i x σ H6 hx ⟨x7,x8,tb,dn,U,fs,rfl,hT,D,hS,g2,b8,T,hF,kp⟩
    rw[K5]at hx;obtain⟨b,hb,rfl⟩:=Lr.mp hx;obtain⟨p,hp,e6⟩:=b5.get hb;have O:=K6 hp;have hi:i<ps.length:=(K1.mp hp).1;obtain⟨d5,d4,f8⟩:=fr e6 O;have e7:jY H6 b p:=kp _ _ d5 d4 f8 e6;have f6:aA H1 H6:=λb o h=>kp b o (az h d1) (az h e1) (az h a2) (c3 b o h);have g3:dn.length+64*(dN r c).length<=990000:=by
     have:=Nat.mul_le_mul_right (64*(dN r c).length) (show i+1<=L.length ^ (r*c) by omega);rw[Nat.add_mul,Nat.one_mul]at this;omega
    have Ep:=g9 p O;have small:eC p:=eC.of Ep.hp (by have:=a.r6;omega) (by have:=a.c6;omega);ac_nf;refine⟨g,dx,b,d,e,L,st,as,Z,M,p,r,c,_,dn,tb,H1,rfl,hG.up s1,f6,d1,e1,b1,Ep,hD,λq h=>⟨p,O,h⟩,aR.of e7,hT,D,hS,g3,λH7 c2 Y g7 e5 a5 hl7 f4 S=>?_⟩;refine h2 _ _ ?_;clear h2;have b4:jY H7 b p:=S _ _ d5 d4 e7;ac_nf;refine⟨b,p,rfl,b4,small,av nofun,λtp a1=>h2 _ _ ?_⟩;clear h2;generalize z8:aG H7 tp _=H8;obtain⟨s8,e8⟩:=jR a1 z8;have hk:a_ H8 tp (bo p,nm):=e8;ext;have min:∀v',Dv Z (bo p,nm) v'->∃v,v<=v'/\aK Y (bo p,nm)=some v:=λv' a9=>uR Ep.hp Ep.ns (λx hx=>⟨(Ep.gd x hx).good.t0,(Ep.gd x hx).good.t7⟩) (λq hq=>a5.clo q ⟨p,O,hq⟩ (f4 q hq)) a9 p (aY.self Ep.hp Ep.r0 Ep.c0) rfl;have f2:=S _ _ d3 d2 b8;have C:=s8 _ _ f2;have a4:=g7.up s8;have ntb:tp≠b:=λz=>by rw[z]at a1;rw[show H7 b=_ from b4]at a1;cases a1
    have c9:∀{t:Addr} {y:aJ×Int},t∈U->y∈fs->rZ H6 t y->rZ H8 t y:=fun{t y} ht hy h=>by
     obtain⟨b2,B,h4⟩:=h;have a3:H6 d=some (.dT (tb.map pU)):=hT;refine⟨b2,s8 _ _ (S _ _ (λz=>?_) (λz=>?_) B),s8 _ _ (S _ _ (λz=>?_) (λz=>?_) h4)⟩
     ·rw[z]at B;rw[B]at a3;cases a3
     ·rw[z]at B;rw[B]at D;cases D
     ·rw[z]at h4;rw[show H6 d=_ from h4]at a3;cases a3
     ·rw[z]at h4;rw[show H6 e=_ from h4]at D;cases D
    have d6:∀b o,b≠d->b≠e->b≠k->H5 b=some o->H8 b=some o:=λb o h1 h2 B h=>s8 _ _ (S b o h1 h2 (kp b o h1 h2 B h));have a7:c2.length<=(i+1)*(64*(dN r c).length):=by rw[Nat.add_mul,Nat.one_mul];omega
    have f1:ps.take (i+1)=ps.take i++[p]:=by rw[q0E,hp];rfl
    have g0:=hF.len;rw[LC]at g0;have hN3:ps.length<=300:=by omega
    refine⟨_,a4.told.get hk,?_⟩;cases hg:aK Y (bo p,nm) with
    |none=>
     rw[q06 (by simp)];exact⟨Y,a4,c2,s8 _ _ e5,a5,a7,U,C,fs,T.mono λt y h1 h2 h=>c9 h1 h2 h,(by rw[f1];exact .miss p hF λv hv=>by obtain⟨v2,_,h2⟩:=min v hv;rw[hg]at h2;cases h2),d6⟩
    |some v=>
     rw[q07 (by rfl)];refine⟨.inl ⟨rfl,_,aR.of C⟩,.int v,?_,av nofun,λtq a0=>?_⟩
     ·have:=a4.told.get hk
      rw[hg]at this;exact this
     have ntl:tq≠k:=λz=>by rw[z,C]at a0;cases a0
     have a6:aG H8 tq (.tup [.ref b,.int v]) k=some (.lst (U.map V.ref)):=ai a0 _ _ C;have s9:aA H8 (aG H8 tq (.tup [.ref b,.int v])):=ai a0;have e9:aG H8 tq (.tup [.ref b,.int v]) tq=some (.tup [.ref b,.int v]):=af;generalize aG H8 tq (.tup [.ref b,.int v])=H9 at a6 s9 e9 ⊢;have put:∀{b:Addr} {o:HO} {u:HO},H9 b=some o->b≠k->aG H9 k u b=some o:=fun{b o u} h hb=>by rw[aq hb];exact h
     have c5:∀{t:Addr} {y:aJ×Int} {u:HO},y.1∈ps->rZ H9 t y->rZ (aG H9 k u) t y:=fun{t y u} hy h=>by
      obtain⟨b2,B,h4⟩:=h;refine⟨b2,put B (λz=>by rw[z,a6]at B;cases B),put h4 (B8 h4 (by rw[(j y.1 hy).1.1];exact a.r1) a6)⟩
     refine⟨_,a6,by rw[K3,T.1];exact bj ⋯,Y,put (a4.up s9) (Ne.symm d3),c2,put (s9 _ _ (s8 _ _ e5)) (Ne.symm d2),a5,a7,U++[tq],by rw[af,Lc];rfl,fs++[(p,v)],aM.snoc (T.mono λt y h1 h2 h=>c5 (q0H (hF.mem y h2)) ((c9 h1 h2 h).up s9)) (c5 O ⟨b,e9,s9 _ _ (s8 _ _ b4)⟩),?_,λb o h1 h2 B h=>put (s9 _ _ (d6 b o h1 h2 B h)) B⟩;rw[f1];refine .hit p v hF ⟨(a5.key _ _ hg).2.2.1,λv' a9=>?_⟩;obtain⟨v2,l2,h2⟩:=min v' a9;rw[hg]at h2;cases h2;exact l2
   ·rintro σ H6 ⟨x7,x8,tb,dn,U,fs,rfl,hT,D,hS,g2,b8,T,hF,kp⟩
    refine h1 _ _ ?_;ext;rw[K3,b5.1,LB]at hF;exact q k H6 U fs ss (s1.free a2) a8 f5 (by rw[e0];exact hF) b8 T λb o h=>kp b o (az (s1 b o h) d1) (az (s1 b o h) e1) (az (s1 b o h) a2) (c3 b o (s1 b o h))
  ·have:tx nm∈(aV (tx st) Z).map (·.1):=by rw[b1];exact LK.mpr ⟨nm,hm,rfl⟩
   rw[yc this]at e3;cases e3
abbrev oE:Stmt:=fC 66
inductive lv(K:W.Frag)(vs:List V)(H:Hp)(Q:VK)(_E:XK):Prop
 |mk (a:Addr) (ns:List Int) (k:Nat) (_:vs=[.ref a,.int (k:Int)]) (_:aR K H a (ns.map V.int)) (_:k<=1000) (_:∀c:Int,Q (.int c) H)
theorem ze:aB ["_law_script","_law_k","_law_cell_here","_law_mixed"] ["_law_script","_law_k"] (ak oE):=by walk_at "c"
theorem Ag{f:Addr}(F:dj K "_law_cell" "_law_cell" oE f fd)(nb:NB mg):↑aS 1 f fd ["_law_script","_law_k"] (lv K):=by
 have sc:=ze;walk_at "f"
 ·obtain⟨a,ns,k,rfl,hS,hk,q⟩:=h
  refine⟨_,(ae (q01 2 sc.nd aj)
   (ae (bJ (nn uW (pv 1) (aN qE rfl nb.len cn (ac (pv 0) ad)) (aX _))
   (ag (q01 2 sc.nd (ba yo (pv 0) (pv 1) (λ_ _=>rfl))))
   aP)
   (ae (q01 3 sc.nd (aE bG (aE cW (aE bW (aE bW (aE bG (pv 2) aj) (aE cW aj (pv 1))) aj) aj) aj))
   (ag (aH (aE bW (aE cW (aE bY (pv 2) aj) aj) (aE bG (aE bW (aE cW (pv 3) aj) (pv 1)) aj))))))),?_⟩
  ext;refine⟨_,hS,?_⟩;rw[K3]
  split
  ·rename_i hlt
   have hlt':k<ns.length:=by omega
   refine⟨_,hS,V.int ns[k],bV (by rw[K5,K0 hlt'];rfl),?_⟩;ext;exact q _
  ·exact q _
def FV(d s m:Nat):List Nat:=(List.range (1+m)).map λi=>97+(d+(1+2*s)*i)%26
theorem Ef:∀d,d<26->∀s,s<6->∀m,m<4->dB (FV d s m)=true:=by decide +kernel
theorem B9:∀n,n<26->(Str.ofString "abcdefghijklmnopqrstuvwxyz").cps.toList[n]?=some (97+n):=by decide +kernel
theorem jG(h:dB r=true):1<=r.length/\r.length<=4:=by
 unfold dB at h;simp only[q0O,q0b]at h;exact⟨h.1.1.1,h.1.1.2⟩
abbrev lx:Stmt:=fC 69
inductive n0(vs:List V)(H:Hp)(Q:VK)(_E:XK):Prop
 |mk (c:Int) (_:vs=[.int c,.int 4]) (_:∀(r:LY) (H':Hp),dB r=true->aA H H'->Q (.str (tx r)) H')
theorem wR:aB ["_law_cell_here","_law_most","_law_letters","_law_step"] ["_law_cell_here","_law_most"] (ak lx):=by walk_at "c"
theorem wo{f:Addr}(F:dj K "_law_signs" "_law_signs" lx f fd)(nb:NB mg):↑aS 1 f fd ["_law_cell_here","_law_most"] n0:=by
 have sc:=wR;walk_at "f"
 ·obtain⟨c,rfl,q⟩:=h
  refine⟨_,(ae (aF (i:=2) sc.nd rfl (Or.inr rfl) iE)
   (ae (aF (i:=3) sc.nd rfl (Or.inr rfl) (aE (bD.m0 bW) aj (aE (bD.m1 cW) aj (aE (bD.m1 bG) (aE (bD.m1 bY) (am 0) aj) aj))))
   (ag (aH (@xZ _ _ _ _ _ _ _ _ (ac (cq ["_law_k"] [2,0,3] rfl (bz.of (by kernel_rfl)) (by kernel_rfl) (bM rfl nb.range (ac (aE (bD.m0 bW) aj (aE (bD.m1 bG) (aE (bD.m1 bG) (am 0) aj) (am 1))) ad))
    (λ_ _ _ _=>(aD (i:=0) (by show(["_law_k","_law_letters","_law_cell_here","_law_step"]:List Str).Nodup;decide +kernel) rfl (Or.inl rfl))) (λ_ _ _ _=>cv) (λ_ _ _ _=>(ba oq (am 1) (aE (bD.m1 bG) (aE (bD.m0 bW) (aE (bD.m1 bY) (am 2) aj) (aE (bD.m1 cW) (am 3) (am 0))) aj) (λ_ _=>rfl)))) ad) rfl rfl))))),?_⟩
  obtain⟨m,v⟩:∃m:Nat,c%4%4=(m:Int):=⟨_,(LR (LP _ ⋯)).symm⟩;obtain⟨b,g⟩:∃m:Nat,c/104%6=(m:Int):=⟨_,(LR (LP _ ⋯)).symm⟩;obtain⟨d,B⟩:∃m:Nat,c/4%26=(m:Int):=⟨_,(LR (LP _ ⋯)).symm⟩;have r:m<4:=by omega
  have p:b<6:=by omega
  have G:d<26:=by omega
  symm;refine h1 _ _ ?_;grind;rw[g];refine h1 _ _ ?_;clear h1;ext;rw[v];have C:(1+(m:Int)).toNat=1+m:=by omega
  rw[C];refine⟨rfl,⋯,⋯,?_⟩;have k:∀i:Nat,(c/4+(1+2*(b:Int))*(i:Int))%26=(((d+(1+2*b)*i)%26:Nat):Int):=λi=>by
   rw[Int.add_emod,B]
   push_cast
   rw[Int.add_emod (d:Int) ((1+2*(b:Int))*(i:Int)),Int.emod_eq_of_lt (a:=(d:Int)) ⋯ ⋯]
  refine iF (n:=1+m) (f:=λi=>some (V.str ⟨#[97+(d+(1+2*b)*i)%26]⟩)) (λσ=>∃x,σ=[x,some (.str "abcdefghijklmnopqrstuvwxyz"),some (.int c),some (.int (1+2*(b:Int)))]) ⟨_,rfl⟩ ⋯ ?_ ?_
  ·rintro i hi σ I N1 N0 ⟨y,rfl⟩ e u k0
   ext;refine⟨.inl ⟨⋯,⋯⟩,nofun,97+(d+(1+2*b)*i)%26,?_,u _ _ _ rfl e ⟨_,rfl⟩⟩;rw[k i];exact bV (B9 _ (Nat.mod_lt _ ⋯))
  ·intro I e l z
   rw[yx];have j:(List.range (1+m)).map (λi=>V.str ⟨#[97+(d+(1+2*b)*i)%26]⟩)=((FV d b m).map λc=>(⟨#[c]⟩:Str)).map V.str:=by
    unfold FV;rw[Le,Le];rfl
   rw[j];have o:=Ef d G b p m r;have hgl:=jG o;refine⟨_,.inl (aR.of af),?_,?_⟩
   ·rw[Le]
    have D:((λy:Str=>y.length)∘λc=>(⟨#[c]⟩:Str))=λ_=>1:=by funext c;rfl
    have j:(Str.ofString "").length=0:=rfl;rw[D,List.map_const',List.sum_replicate_nat,K3,j];omega
   ·rw[i']
    exact q _ _ o (e.trans (ai z))
theorem wf(r s:LY):tx r++tx s=tx (r++s):=by
 show(⟨r.toArray++s.toArray⟩:Str)=⟨(r++s).toArray⟩;simp
theorem yX{row:LY}{n:Nat}(h:n<=row.length):Txt.slice (tx row) none (some (n:Int))=tx (row.take n):=by
 rw[gE,HT.sIx_nat,LS h];show tx ((row.drop 0).take (n-0))=_;rw[LU,Nat.sub_zero]
theorem vI{row:LY}{n:Nat}(h:n<=row.length):Txt.slice (tx row) (some (n:Int)) none=tx (row.drop n):=by
 rw[gE,HT.sIx_nat,LS h];show tx ((row.drop n).take (row.length-n))=_;rw[q0F (by rw[LD];omega)]
theorem BG:∀n,n<26->(Str.ofString "ABCDEFGHIJKLMNOPQRSTUVWXYZ").cps.toList[n]?=some (65+n):=by decide +kernel
def Ed(c:Nat):Bool:=GA Ft c
theorem Bm:∀n,n<26->Ed (65+n)=true:=by decide +kernel
theorem FC(x:Int):∃n:Nat,n<26/\x%26=(n:Int):=⟨(x%26).toNat,⋯,⋯⟩
theorem DC{r:LY}(h:∀x∈r,Ed x=true)(h1:1<=r.length)(h4:r.length<=4):dH r=true:=by
 have a:r.all (GA Ft)=true:=LL.mpr h;unfold dH ij;rw[a];simp;omega
abbrev lA:Stmt:=fC 70
inductive oY(vs:List V)(H:Hp)(Q:VK)(_E:XK):Prop
 |mk (c:Int) (_:vs=[.int c]) (_:∀(l:Addr) (p:aJ) (H':Hp),H l=none->H' l=some (.lst (aw p))->p.length=4->(∀r∈p,dH r=true)->aA H H'->Q (.ref l) H')
theorem xI:aB ["_law_cell_here","_law_letters","_law_size","_law_at","_law_step","_law_base","_law_names_here","_law_k","_law_letter"] ["_law_cell_here"] (ak lA):=by walk_at "c"
theorem wE{f:Addr}(F:dj K "_law_names" "_law_names" lA f fd)(nb:NB mg):↑aS 1 f fd ["_law_cell_here"] oY:=by
 have sc:=xI;walk_at "f"
 ·obtain⟨c,rfl,q⟩:=h
  refine⟨_,(ae (aF (i:=1) sc.nd rfl (Or.inr rfl) iE)
   (ae (q01 2 sc.nd (aE (bD.m0 bW) aj (aE (bD.m1 bG) (am 0) aj)))
   (ae (q01 3 sc.nd (aE (bD.m1 bG) (aE (bD.m1 bY) (am 0) aj) (am 2)))
   (ae (q01 4 sc.nd (aE (bD.m0 bW) aj (aE (bD.m1 cW) aj (aE (bD.m1 bG) (aE (bD.m1 bY) (am 0) aj) aj))))
   (ae (q01 5 sc.nd (@xZ _ _ _ _ _ _ _ _ (ac (cq ["_law_k"] [1,0] rfl (bz.of (by kernel_rfl)) (by kernel_rfl) (bM rfl nb.range (ac (am 2) ad))
    (λ_ _ _ _=>(aD (i:=0) (by show(["_law_k","_law_letters","_law_cell_here"]:List Str).Nodup;decide +kernel) rfl (Or.inl rfl))) (λ_ _ _ _=>cv) (λ_ _ _ _=>(ba oq (am 1) (aE (bD.m1 bG) (aE (bD.m0 bW) (aE (bD.m1 bY) (am 2) aj) (aE (bD.m1 cW) aj (am 0))) aj) (λ_ _=>rfl)))) ad) rfl rfl))
   (ae (q01 6 sc.nd (bA ad))
   (ae (bd PassesOwn.never rfl (bM rfl nb.range (ce ad)) (q02 7 sc.nd)
   (ae (q01 8 sc.nd (ba oq (am 1) (aE (bD.m1 bG) (aE (bD.m0 bW) (aE (bD.m1 bY) (am 0) aj) (aE (bD.m1 cW) (am 4) (am 7))) aj) (λ_ _=>rfl)))
   (ag (bE (gt PySem.F.plainAttrs_list PySem.F.slot_list_append PySem.F.type_list_append dt (am 6) (ac (aE jI (aE jI (d8 oh (am 5) iY (dq (am 3))) (am 8)) (d8 oh (am 5) (dq (aE (bD.m0 bW) (am 3) aj)) iY)) ad))))))
   (ag (aH (am 6)))))))))),?_⟩
  obtain⟨m,hm⟩:∃m:Nat,c%4=(m:Int):=⟨_,(LR (LP _ ⋯)).symm⟩;have m2:m<4:=by omega
  symm;refine h1 _ _ ?_;grind;refine h1 _ _ ?_;clear h1;rw[hm];symm;refine⟨⋯,h1 _ _ ?_⟩;clear h1;obtain⟨a,O⟩:∃k:Nat,c/4%(1+(m:Int))=(k:Int):=⟨_,(LR (LP _ ⋯)).symm⟩;have hat2:a<1+m:=by have:=LQ (c/4) (b:=1+(m:Int)) ⋯;omega
  rw[O];symm;refine h1 _ _ ?_;clear h1;generalize 1+2*(c/16%6)=st;symm;have en:(1+(m:Int)).toNat=1+m:=by omega
  rw[en];refine⟨rfl,⋯,⋯,?_⟩
  let fc:Nat->Nat:=λi=>65+((c/96+5*(i:Int))%26).toNat
  refine iF (n:=1+m) (f:=λi=>some (V.str ⟨#[fc i]⟩)) (λσ=>∃x,σ=[x,some (.str "ABCDEFGHIJKLMNOPQRSTUVWXYZ"),some (.int c)]) ⟨_,rfl⟩ ⋯ ?_ ?_
  ·rintro i hi σ d N1 N0 ⟨y,rfl⟩ D Z k0
   ext;obtain⟨n,h1,h2⟩:=FC (c/96+5*(i:Int));refine⟨nofun,fc i,?_,Z _ _ _ rfl D ⟨_,rfl⟩⟩;show pJ _ _=some (65+((c/96+5*(i:Int))%26).toNat);rw[h2];exact bV (BG n h1)
  ·intro d D l hl
   rw[yx];have R:(List.range (1+m)).map (λi=>V.str ⟨#[fc i]⟩)=(((List.range (1+m)).map fc).map λc=>(⟨#[c]⟩:Str)).map V.str:=by rw[Le,Le];rfl
   rw[R];have g:∀x∈(List.range (1+m)).map fc,Ed x=true:=λx J=>by
    obtain⟨i,_,rfl⟩:=LK.mp J;obtain⟨n,h1,h2⟩:=FC (c/96+5*(i:Int));show Ed (65+((c/96+5*(i:Int))%26).toNat)=true;rw[h2];exact Bm n h1
   have M:((List.range (1+m)).map fc).length=1+m:=by simp
   generalize(List.range (1+m)).map fc=cs at g M ⊢;refine⟨_,.inl (aR.of af),?_,?_⟩
   ·rw[Le]
    have e1:((λy:Str=>y.length)∘λc=>(⟨#[c]⟩:Str))=λ_=>1:=by funext c;rfl
    have R:(Str.ofString "").length=0:=rfl;rw[e1,List.map_const',List.sum_replicate_nat,K3,R];omega
   rw[i'];refine h1 _ _ ?_;clear h1;have G:=D.trans (ai (o:=.lst ((cs.map λc=>(⟨#[c]⟩:Str)).map V.str)) hl);generalize aG d l (.lst ((cs.map λc=>(⟨#[c]⟩:Str)).map V.str))=H1 at G ⊢;symm;refine⟨av nofun,λj v=>h1 _ _ ?_⟩;clear h1;have z:=G.free v;have T:=G.trans (ai (o:=.lst []) v);have U:aG H1 j (.lst []) j=some (.lst []):=af;generalize aG H1 j (.lst [])=H2 at T U ⊢;symm;refine⟨nofun,?_⟩;refine bN (n:=4) (λi σ d=>aA H d/\(∃p:aJ,d j=some (.lst (aw p))/\p.length=i/\∀r∈p,dH r=true)/\∃x y,σ=[some (V.int c),some (V.str (Str.ofString "ABCDEFGHIJKLMNOPQRSTUVWXYZ")),some (V.int (1+(m:Int))),some (V.int (a:Int)),some (V.int st),some (V.str (tx cs)),some (V.ref j),x,y]) ⟨T,⟨[],U,rfl,λr hr=>nomatch hr⟩,_,_,rfl⟩ ?_ ?_
   ·rintro i σ d hi ⟨e,⟨p,C,B,I⟩,x,y,rfl⟩
    ext;obtain⟨n,u,L⟩:=FC (c/2496+st*(i:Int));have Y:dH (cs.take a++[65+n]++cs.drop (a+1))=true:=by
     refine DC (λx J=>?_) (by simp;omega) (by simp;omega);rcases Ld.mp J with h | h
     ·rcases Ld.mp h with h | h
      ·exact g x (q0H h)
      ·rw[K4.mp h];exact Bm n u
     ·exact g x (q0I h)
    have S:((a:Int)+1)=((a+1:Nat):Int):=by push_cast;rfl
    rw[yX ⋯,S,vI ⋯];have lt1:(cs.take a).length<=4:=by rw[LC];omega
    have lt2:(cs.drop (a+1)).length<=4:=by rw[LD];omega
    have ez:tx (cs.take a)++(⟨#[65+n]⟩:Str)++tx (cs.drop (a+1))=tx (cs.take a++[65+n]++cs.drop (a+1)):=by rw[show(⟨#[65+n]⟩:Str)=tx [65+n] from rfl,wf,wf]
    refine⟨.inr ⟨⋯,⋯⟩,nofun,65+n,by rw[L];exact bV (BG n u),.inl ⟨rfl,_,aR.of C⟩,by rw[aC];exact av ⋯,?_,by rw[aC];exact av ⋯,?_,_,C,by rw[ax,B];exact bj ⋯,?_⟩
    ·rw[aC];exact av (by show _+1<=_;omega)
    ·rw[show(⟨#[65+n]⟩:Str)=tx [65+n] from rfl,wf,aC,aC];exact av (by simp;omega)
    ·rw[ez]
     refine⟨cO e z,p++[cs.take a++[65+n]++cs.drop (a+1)],?_,by rw[Lm,B];rfl,λr hr=>?_⟩
     ·rw[af];unfold aw;rw[Lc];rfl
     ·rcases Ld.mp hr with h | h
      ·exact I r h
      ·rw[K4.mp h];exact Y
   ·rintro σ d ⟨e,⟨p,C,B,I⟩,x,y,rfl⟩
    refine h1 _ _ ?_;ext;exact q j p d z C B I e
abbrev lh:Stmt:=fC 67
inductive pH(K:W.Frag)(vs:List V)(H:Hp)(Q:VK)(_E:XK):Prop
 |mk (a:Addr) (ns:List Int) (b m:Nat) (_:vs=[.ref a,.int (b:Int),.int (m:Int)]) (_:aR K H a (ns.map V.int)) (_:b<=100) (_:1<=m) (_:m<=100) (_:∀(l:Addr) (cs:List Int) (H':Hp),H l=none->H' l=some (.lst (cs.map V.int))->1<=cs.length->cs.length<=m->aA H H'->Q (.ref l) H')
theorem xQ:aB ["_law_script","_law_begin","_law_most","_law_many"] ["_law_script","_law_begin","_law_most"] (ak lh):=by walk_at "c"
theorem xM{f:Addr}(F:dj K "_law_cells" "_law_cells" lh f fd)(nb:NB mg)(zia:↑dl 1 "_law_cell" ["_law_script","_law_k"] (lv K)):↑aS 2 f fd ["_law_script","_law_begin","_law_most"] (pH K):=by
 have sc:=xQ;walk_at "f"
 ·obtain⟨a,ns,b,m,rfl,v,hb,hm1,hm,q⟩:=h
  refine⟨_,(ae (q01 3 sc.nd (aE (bD.m0 tj) (am 2) (aE (bD.m1 bY) (aE (bD.m1 bG) (aI zia (hr.mono nofun) rfl aL (ac (am 0) (ce ad))) (am 2)) aj)))
   (ag (aH (cq ["_law_k"] [0] rfl (bz.of (by kernel_rfl)) (by kernel_rfl) (jc rfl nb.range (ac (am 1) (ac (aE (bD.m0 bW) (am 1) (am 3)) ad)))
    (λ_ _ _ _=>(aD (i:=0) (by show(["_law_k","_law_script"]:List Str).Nodup;decide +kernel) rfl (Or.inl rfl))) (λ_ _ _ _=>cv) (λ_ _ _ _=>(aI zia (hr.mono nofun) rfl aL (ac (am 1) (ac (am 0) ad)))))))),?_⟩
  symm;refine⟨a,ns,62,rfl,v,⋯,λc=>⟨_,rfl,⋯,h1 _ _ ?_⟩⟩;clear h1;obtain⟨n,x⟩:∃n:Nat,(m:Int)-c%(m:Int)/2=(n:Int):=⟨((m:Int)-c%(m:Int)/2).toNat,by have:=LP c (b:=(m:Int)) ⋯;have:=LQ c (b:=(m:Int)) ⋯;omega⟩;have hn2:1<=n/\n<=m:=by have:=LP c (b:=(m:Int)) ⋯;have:=LQ c (b:=(m:Int)) ⋯;omega
  rw[x];ext;refine⟨⋯,⋯,⋯,⋯,?_⟩;rw[show((b:Int)+(n:Int)-(b:Int)).toNat=n by omega];refine jV (λi d σ k=>aA H k/\i<=n/\(∃g:List Int,d=g.map V.int/\g.length=i)/\∃z,σ=[z,some (V.ref a)]) ⟨λ_ _ e=>e,Lo _,⟨[],rfl,rfl⟩,_,rfl⟩ ?_ (λi d σ k h=>h.2.1) ?_ ?_
  ·rintro i d σ k ⟨_,u,⟨g,rfl,j⟩,_⟩
   rw[K3,j];exact bj ⋯
  ·rintro i d σ k u ⟨o,_,⟨g,rfl,j⟩,z,rfl⟩
   ext;exact⟨a,ns,b+i,by simp,o.seq v,⋯,λc=>⟨o,u,⟨g++[c],by simp,by simp[j]⟩⟩⟩
  rintro d σ H4 ⟨p,_,⟨g,rfl,j⟩,_⟩;intro l r;exact q l g _ (p.free r) af ⋯ ⋯ (p.trans (ai r))
abbrev iK:Stmt:=fC 72
inductive kh(R:RC)(CG:Addr)(vs:List V)(H:Hp)(Q:VK)(_E:XK):Prop
 |mk (l:Addr) (sg st:LY) (ts:L5) (rs:Yaa) (_:vs=[.str (tx sg),.str (tx st),.ref l]) (_:hV H l ts rs) (_:(∀r∈rs,kJ r)) (_:rs.length<=24) (_:sg.length<=100) (_:st.length<=100) (_:nO sg st rs=none) (_:∀b db as H',c7 R H' CG db b sg st as rs->aA H H'->Q (.ref b) H')
theorem sT:aB ["_law_signs_here","_law_start","_law_rules"] ["_law_signs_here","_law_start","_law_rules"] (ak iK):=by walk_at "c"
theorem sU{f:Addr}(F:dj K "_law_grammar" "_law_grammar" iK f fd)(nb:NB mg)(gk:Ik K CG)(zXb:↑dl 6 "_law_rule" ["_law_rule_here"] (lY R))(ztb:↑k9 4 "Grammar" CG ["self","signs","start","rules"] (gW K R)):↑aS 7 f fd ["_law_signs_here","_law_start","_law_rules"] (kh R CG):=by
 have sc:=sT;walk_at "f"
 ·obtain⟨l,C,B,ts,G,rfl,o,v,hn,hsg,hst,L,q⟩:=h
  refine⟨_,(ag (aH (i8 ztb (hr.mono nofun) rfl aL (ac (pv 0) (ac (pv 1) (ac (cq ["_law_rule_here"] [] rfl (bz.of (by kernel_rfl)) (by kernel_rfl) (tX (pv 2))
    (λ_ _ _ _=>(aD (i:=0) (by show(["_law_rule_here"]:List Str).Nodup;decide +kernel) rfl (Or.inl rfl))) (λ_ _ _ _=>cv) (λ_ _ _ _=>(aI zXb (hr.mono nofun) rfl aL (ac (pv 0) ad)))) ad)))))),?_⟩
  ext;refine⟨⟨_,aR.of o.1⟩,xN o v ⋯ λg H2 D I c p x j m d n=>?_⟩;have k:aA H2 (aG H2 c (.lst (g.map V.ref))):=ai p;have y:aG H2 c (.lst (g.map V.ref)) c=some (.lst (g.map V.ref)):=af;generalize aG H2 c (.lst (g.map V.ref))=H3 at k y m d ⊢;have a:aA H3 (aG (aG H3 j (.own x)) x (.ins CG j [])):=(ai d).trans (ai (by rw[aq (Ne.symm n)];exact m));refine⟨x,CG,j,c,C,B,g,G,rfl,af,gk.cl.cl,gk.na,⋯,⋯,a _ _ y,(I.up k).up a,λr hr=>(v r hr).k4,⋯,L,λM lk pn t z J _ _ _=>⟨rfl,?_⟩⟩;exact q x j _ M J.f ((D.trans k).trans λb u e=>z b u (az e m) (a b u e))
abbrev lR:Stmt:=fC 73
inductive oQ(vs:List V)(H:Hp)(Q:VK)(_E:XK):Prop
 |mk (c:Int) (b:Addr) (p:aJ) (sg:LY) (_:vs=[.int c,.str (tx sg),.ref b]) (_:H b=some (.lst (aw p))) (_:p.length=4) (_:(∀r∈p,dH r=true)) (_:dB sg=true) (_:∀t r H',u6 p sg r->H' t=some (.tup (vh r))->aA H H'->Q (.ref t) H')
theorem wO:aB ["_law_cell_here","_law_signs_here","_law_names_here","_law_kind","_law_name","_law_cost","_law_one","_law_rest"] ["_law_cell_here","_law_signs_here","_law_names_here"] (ak lR):=by walk_at "c"
theorem wD{f:Addr}(F:dj K "_law_drawn" "_law_drawn" lR f fd)(nb:NB mg):↑aS 1 f fd ["_law_cell_here","_law_signs_here","_law_names_here"] oQ:=by
 have sc:=wO;walk_at "f"
 ·obtain⟨c,b,p,i,rfl,G,hp,d,r,q⟩:=h
  refine⟨_,(ae (q01 3 sc.nd (aE (bD.m1 bG) (am 0) aj))
   (ae (q01 4 sc.nd (ba bS (am 2) (aE (bD.m1 bG) (aE (bD.m1 bY) (am 0) aj) aj) (λ_ _=>rfl)))
   (ae (q01 5 sc.nd (aE (bD.m0 bW) aj (aE (bD.m1 bG) (aE (bD.m1 bY) (am 0) aj) aj)))
   (ae (q01 6 sc.nd (ba bS (am 2) (aE (bD.m1 bG) (aE (bD.m1 bY) (am 0) aj) aj) (λ_ _=>rfl)))
   (ae (q01 7 sc.nd (aE (bD.m1 bY) (am 0) aj))
   (ae (bJ (aU d0 (am 3) aj (aX _))
   (ag (aH (b6 (ac (am 4) (ac (am 5) (ce (ac (ba oq (am 1) (aE (bD.m1 bG) (am 7) (aN br rfl nb.len cn (ac (am 1) ad))) (λ_ _=>rfl)) (cV ad))))))))
   aP)
   (ae (bJ (aU d0 (am 3) aj (aX _))
   (ag (aH (b6 (ac (am 4) (ac (am 5) (ce (ac (am 6) (ac (aE (bD.m1 bG) (am 7) aj) ad))))))))
   aP)
   (ag (aH (b6 (ac (am 4) (ac (am 5) (ac (am 3) (ac (am 6) (ac (ba bS (am 2) (aE (bD.m1 bG) (am 7) aj) (λ_ _=>rfl)) ad))))))))))))))),?_⟩
  have hsl:=jG r;have a:∀x:Int,∃z∈p,pJ (aw p) (x%4)=some (V.str (tx z)):=λx=>by
   obtain⟨j,hj⟩:∃j:Nat,x%4=(j:Int):=⟨_,(LR (LP _ ⋯)).symm⟩;have:x%4<4:=LQ _ ⋯;exact⟨p[j]'⋯,K_ _,by rw[hj];exact bV (cw ⋯)⟩
  have C:∀x:Int,∃c∈i,pJ (tx i).cps.toList (x%(i.length:Int))=some c:=λx=>by
   rw[dg];exact EZ (LP _ ⋯) (LQ _ ⋯)
  have hsz:(tx i).length<=sizeLine:=by rw[aC];exact av ⋯
  obtain⟨L,o,Y⟩:=a (c/4);obtain⟨J,n,U⟩:=a (c/144);obtain⟨I,m,T⟩:=a (c/576);obtain⟨B,v,S⟩:=C (c/576);have R:0<=c/576%8:=LP _ ⋯;have t7:c/576%8<8:=LQ _ ⋯;have c0:0<=c/16%9:=LP _ ⋯;have c9:c/16%9<9:=LQ _ ⋯;have y:∀k,k<4->u6 p i (k,⟨L,1+c/16%9,J,I,[B],c/576%8⟩):=λk Z=>by
   have g:RV.good ⟨L,1+c/16%9,J,I,[B],c/576%8⟩:=⟨d _ o,by show 1<=1+c/16%9;omega,by show 1+c/16%9<=9;omega,d _ n,d _ m,yB r v,R,by show c/576%8<=7;omega⟩;exact⟨⟨Z,g,g.small⟩,o,n,m,B,v,rfl⟩
  symm;refine h1 _ _ ?_;grind;refine⟨_,aR.of G,_,Y,h1 _ _ ?_⟩;grind;refine h1 _ _ ?_;grind;refine⟨_,aR.of G,_,U,h1 _ _ ?_⟩;grind;refine h1 _ _ ?_;clear h1;ext;have k4:0<=c%4/\c%4<4:=⟨LP _ ⋯,LQ _ ⋯⟩
  by_cases O:c%4=0
  ·rw[q07 O]
   rw[aC];have u:i.length<=sizeLine:=av ⋯;refine⟨u,⋯,u,B,S,av nofun,λt l=>?_⟩;exact q t _ _ (y 0 ⋯) af (ai l)
  ·rw[q06 O]
   by_cases M:c%4=3
   ·rw[q07 M]
    exact⟨av nofun,λt l=>q t _ _ (y 3 ⋯) af (ai l)⟩
   ·rw[q06 M]
    refine⟨_,aR.of G,_,T,av nofun,λt l=>?_⟩;have D:c%4=1\/c%4=2:=by omega
    rcases D with e | e
    ·refine q t _ _ (y 1 ⋯) ?_ (ai l)
     rw[af,e];rfl
    ·refine q t _ _ (y 2 ⋯) ?_ (ai l)
     rw[af,e];rfl
abbrev lF:Stmt:=fC 74
inductive oB(vs:List V)(H:Hp)(Q:VK)(_E:XK):Prop
 |mk (z m:Nat) (_:vs=[.int (z:Int),.int (m:Int)]) (_:z<=4) (_:m<=36) (_:Q (.int ((z ^ m:Nat):Int)) H)
theorem v6:aB ["_law_number","_law_many","_law_total","_law_turn"] ["_law_number","_law_many"] (ak lF):=by walk_at "c"
theorem wT{f:Addr}(F:dj K "_law_power" "_law_power" lF f fd)(nb:NB mg):↑aS 1 f fd ["_law_number","_law_many"] oB:=by
 have sc:=v6;walk_at "f"
 ·obtain⟨z,m,rfl,z4,m36,q⟩:=h
  refine⟨_,(ae (q01 2 sc.nd aj)
   (ae (bd PassesOwn.never rfl (bM rfl nb.range (ac (am 1) ad)) (q02 3 sc.nd)
   (ag (q01 2 sc.nd (aE (bD.m1 cW) (am 2) (am 0)))))
   (ag (aH (am 2))))),?_⟩
  symm;refine h1 _ _ ?_;grind;rw[K'];refine⟨⋯,⋯,?_⟩;refine bN (lo:=0) (n:=m) (λi σ a=>a=H/\∃x,σ=[some (V.int (z:Int)),some (V.int (m:Int)),some (V.int ((z ^ i:Nat):Int)),x]) ⟨rfl,_,rfl⟩ ?_ ?_
  ·rintro i σ a hi ⟨rfl,x,rfl⟩
   ext;refine⟨.inr ⟨⋯,⋯⟩,?_⟩;rw[Nat.pow_succ,Int.natCast_mul]
  ·rintro σ a ⟨rfl,x,rfl⟩
   refine h1 _ _ ?_;ext;exact q
section
variable {X:Cx}
def Gr:List V->Hp->VK->Prop:=λxs H Q=>∃b,xs=[.bl b]/\Q (.int (if b=true then 1 else 0)) H
theorem vB:eM X (.type "int") Gr:=by
 intro pins s σ H xs us Q I r h;obtain⟨b,rfl,q⟩:=h;obtain⟨u,rfl,a⟩:=ou r;obtain rfl:u=Value.bool b:=a;exact PySem.call_int_bool ⟨.int _,H,I.tok _,⟨_,rfl⟩,q⟩
end
abbrev oN:Stmt:=fC 75
inductive rC(R:RC)(CG:Addr)(vs:List V)(H:Hp)(Q:VK)(_E:XK):Prop
 |mk (g dx:Addr) (sg st nm:LY) (as:L5) (rs:Yaa) (nms:List (List Nat)) (r c:Nat) (_:vs=[.ref g,.str (tx nm),.int (r:Int),.int (c:Int)]) (_:c7 R H CG dx g sg st as rs) (_:(aV (tx st) rs).map (·.1)=nms.map tx) (_:DO rs nms sg r c) (_:((nm∉nms/\∀H',aA H H'->Q (.str "name") H')\/(nm∈nms/\300<sg.length ^ (r*c)/\∀H',aA H H'->Q (.str "many") H')))
theorem zk:aB ["_law_grammar_here","_law_name","_law_rows","_law_columns","_law_error","e"] ["_law_grammar_here","_law_name","_law_rows","_law_columns"] (ak oN):=by walk_at "c"
theorem yO{f CN_ CM yad:Addr}{bmD:L4}{nD:String}(F:dj K "_law_word" "_law_word" oN f fd)(nb:NB mg)
  (yai:mg "NoName"=some (.ref CN_)) (yax:mg "QuiltError"=some (.ref yad)) (yaq:mg "TooMany"=some (.ref CM))
  (ybj:pT K yad bmD nD) (hbase:bmD.contains (.type "BaseException")=true) {bmN bmM:L4} {nN nM:String} (ybI:pT K CN_ bmN nN) (yby:pT K CM bmM nM) (und:vW K CN_ yad) (und2:vW K CM yad) (xt:W.XTy K CN_) (xt2:W.XTy K CM)
  (k1:W.kitOne K (.ref CN_) (.ref CN_)=some true) (k2:W.kitOne K (.ref CN_) (.ref CM)=some false) (k3:W.kitOne K (.ref CM) (.ref CN_)=some false) (k4:W.kitOne K (.ref CM) (.ref CM)=some true)
  (yam:dl P w K mg base (j8 P w) 10 "pictures_of" ["grammar","name","rows","columns"] (fe K R CG CN_ CM)):↑aS 11 f fd ["_law_grammar_here","_law_name","_law_rows","_law_columns"] (rC R CG):=by
 have sc:=zk;walk_at "f"
 ·obtain⟨g,G,y,x,B,I,z,l,r,c,rfl,C,n,D,q⟩:=h
  have hu:=hr.units;refine⟨_,(ae (q01 4 sc.nd ow)
   (ae (xJ (i:=5) sc.nd rfl rfl (FZ yam (hr.mono nofun) rfl (ac (am 0) (ac (am 1) (ac (am 2) (ac (am 3) ad))))) rfl rfl rfl yax ybj hbase (λa=>(ag (q01 4 sc.nd (am 5)))))
   (ae (bJ (aU d0 (aN dQ rfl nb.isinstance bR (ac (am 4) (ac (bZ (v:=.ref _) rfl yai rfl) ad))) (aN dQ rfl nb.isinstance bR (ac (am 4) (ac (bZ (v:=.ref _) rfl yaq rfl) ad))) (aX _))
   (ag (aH iE))
   aP)
   (ag (aH (ba bi (b6 (cV (cV ad))) (dz vB rfl nb.int By (ac (aN dQ rfl nb.isinstance bR (ac (am 4) (ac (bZ (v:=.ref _) rfl yai rfl) ad))) ad)) (λ_ _=>rfl))))))),?_⟩
  symm;refine h1 _ _ ?_;grind;rcases q with⟨d,q⟩ | ⟨b,hbig,q⟩
  ·refine⟨g,G,y,x,B,I,z,l,r,c,rfl,C,n,D,λ_=>⟨CN_,rfl,_,_,ybI,und,λa e=>h1 _ _ ?_⟩,λb=>q0Q b d,λb=>q0Q b d⟩
   clear h1;have j:aG H a (xo a (.ref CN_) none) a=some (xo a (.ref CN_) none):=af;have q:=λu s=>q u ((ai (o:=xo a (.ref CN_) none) e).trans s);generalize aG H a (xo a (.ref CN_) none)=H2 at j q ⊢;have k:F_ H2 a CN_:=.inl j;symm;refine .inr (.inl ⟨a,CN_,_,true,rfl,rfl,k,xt,k1,?_⟩);refine .inr (.inl ⟨a,CN_,_,false,rfl,rfl,k,xt,k2,rfl,?_⟩);rw[q06 nofun];refine h1 _ _ ?_;clear h1;ext;refine⟨av nofun,λp m=>.inr (.inl ⟨a,CN_,_,true,rfl,rfl,.inl (ai m _ _ j),xt,k1,true,rfl,1,rfl,_,gG.of af,_,rfl,?_⟩)⟩;exact q _ (ai m)
  ·refine⟨g,G,y,x,B,I,z,l,r,c,rfl,C,n,D,λd=>q0Q b d,λ_ _ H1 J=>⟨CM,rfl,_,_,yby,und2,λa e=>h1 _ _ ?_⟩,λ_ h=>q0Q h ⋯⟩
   clear h1;have j:aG H1 a (xo a (.ref CM) none) a=some (xo a (.ref CM) none):=af;have q:=λu s=>q u ((J.trans (ai (o:=xo a (.ref CM) none) e)).trans s);generalize aG H1 a (xo a (.ref CM) none)=H2 at j q ⊢;have k:F_ H2 a CM:=.inl j;symm;refine .inr (.inl ⟨a,CM,_,false,rfl,rfl,k,xt2,k3,?_⟩);refine .inr (.inl ⟨a,CM,_,true,rfl,rfl,k,xt2,k4,rfl,?_⟩);rw[q06 nofun];refine h1 _ _ ?_;clear h1;ext;refine⟨av nofun,λp m=>.inr (.inl ⟨a,CM,_,false,rfl,rfl,.inl (ai m _ _ j),xt2,k3,false,rfl,0,rfl,_,gG.of af,_,rfl,?_⟩)⟩;exact q _ (ai m)
theorem tD{H:Hp}(h:H a=some (.lst (aw p))):j9 K H (.lst ((p.map tx).map Dt.str)) (.ref a):=by
 unfold j9;exact⟨a,_,rfl,aR.of h,by rw[jS];exact DN⟩
theorem Dw{H:Hp}{Q:VK}(ha:H a=some (.lst (aw p)))(hb:H b=some (.lst (aw p)))(q:Q (.bl true) H):AU K false (.ref a) (.ref b) H Q:=
 .inl ⟨_,by rw[rn];omega,.inl ⟨tD ha,tD hb⟩,q⟩
theorem yf{H:Hp}{t:Addr}{v:Int}(h:H t=some (.tup [.ref b,.int v]))(hb:H b=some (.lst (aw p))):j9 K H (.tup [.lst ((p.map tx).map Dt.str),.int v]) (.ref t):=by
 unfold j9;refine⟨t,_,rfl,gG.of h,?_⟩;unfold eu;refine⟨_,_,rfl,tD hb,?_⟩;unfold eu;refine⟨_,_,rfl,?_,?_⟩
 ·unfold j9;rfl
 ·unfold eu;rfl
theorem yK(zs:L9)(v:Int):Dt.deps [.lst (zs.map Dt.str),.int v]<=40:=by
 simp only[Dt.deps,Dt.dep,rn]
 decide
theorem xX.one{rs:Yaa}{nm:LY}{p:aJ}{fs:List (aJ×Int)}(h:xX rs nm [p] fs):(fs=[]/\∀v,¬ Dv rs (bo p,nm) v)\/∃v,fs=[(p,v)]/\Mn rs (bo p,nm) v:=by
 generalize e:[p]=l at h;have b:∀{q:aJ} {ps:List aJ},[p]=ps++[q]->ps=[]/\q=p:=fun{q ps} e=>by
  cases ps with
  |nil=>injection e with e;exact⟨rfl,e.symm⟩
  |cons x ps=>injection e with _ e;cases ps<;>cases e
 have a:∀{fs},xX rs nm [] fs->fs=[]:=fun{fs} h=>LJ.mp (Nat.le_zero.mp h.len);cases h with
 |nil=>cases e
 |hit q v h1 h2=>
  obtain⟨rfl,rfl⟩:=b e;rw[a h1];exact .inr ⟨v,rfl,h2⟩
 |miss q h1 h2=>
  obtain⟨rfl,rfl⟩:=b e;exact .inl ⟨a h1,h2⟩
theorem tP{t u:TS}{σ:St}(h:∀t' u',t'=t->u'=u->Ad c t' u' D σ H):Ad c t u D σ H:=h t u rfl rfl
abbrev gc:Stmt:=fC 76
inductive oO(R:RC)(CG:Addr)(vs:List V)(H:Hp)(Q:VK)(_E:XK):Prop
 |mk (g dx:Addr) (sg st nm:LY) (as:L5) (rs:Yaa) (nms:List (List Nat)) (r c:Nat) (_:vs=[.ref g,.str (tx nm),.str (tx sg),.int (r:Int),.int (c:Int)]) (_:c7 R H CG dx g sg st as rs) (_:(aV (tx st) rs).map (·.1)=nms.map tx) (_:DO rs nms sg r c) (_:nm∈nms) (_:sg.length ^ (r*c)<=300) (_:∀H',aA H H'->Q (.bl true) H')
theorem wN:aB ["_law_grammar_here","_law_name","_law_signs_here","_law_rows","_law_columns","_law_found","_law_picture","_law_least"] ["_law_grammar_here","_law_name","_law_signs_here","_law_rows","_law_columns"] (ak gc):=by walk_at "c"
theorem xR{f CN_ CM:Addr}(F:dj K "_law_all_alike" "_law_all_alike" gc f fd)(nb:NB mg)(zXa:↑dl 1 "_law_whole" ["_law_x"] oH)
  (yam:dl P w K mg base (j8 P w) 10 "pictures_of" ["grammar","name","rows","columns"] (fe K R CG CN_ CM)) (yaP:dl P w K mg base (j8 P w) 11 "least_cost" ["grammar","picture","name"] (jt K R CG CN_)):↑aS 12 f fd ["_law_grammar_here","_law_name","_law_signs_here","_law_rows","_law_columns"] (oO R CG):=by
 have sc:=wN;walk_at "f"
 ·obtain⟨g,dx,sg,st,nm,as,rs,C,r,c,rfl,hG,a4,e,a5,hpw,q⟩:=h
  have hu:=hr.units;refine⟨_,(ae (q01 5 sc.nd (aI (CX:=j8 P w) yam (hr.mono nofun) rfl dy (ac (am 0) (ac (am 1) (ac (am 3) (ac (am 4) ad))))))
   (ae (bJ (jJ (fU (aN cy rfl nb.isinstance bR (ac (am 5) (ac (sv (v:=.ty "list") rfl nb.list fF rfl) ad))) λ_=>rfl))
   (ag (aH o9))
   aP)
   (ae (bJ (aU (bD.m0 mh) (aN br rfl nb.len cn (ac (am 2) ad)) aj (aX _))
   (ag (aH o9))
   aP)
   (ae (hZ (i:=6) ["_law_row"] [2,4] sc.nd rfl (Or.inl rfl) rfl  rfl (bz.of (by kernel_rfl)) (by kernel_rfl) (bM rfl nb.range (ac (am 3) ad))
    (λ_ _ _ _=>(aD (i:=0) (by show(["_law_row","_law_signs_here","_law_columns"]:List Str).Nodup;decide +kernel) rfl (Or.inl rfl))) (λ_ _ _ _=>cv) (λ_ _ _ _=>(aE Da (am 1) (am 2))))
   (ae (bJ (aU (bD.m0 mh) (aE (bD.m1 cW) (am 3) (am 4)) aj (aX _))
   (ag (aH (GJ (dX d0 (aN cN rfl nb.len cn (ac (am 5) ad)) aj (aX _)) (lH (iX (dX d0 (aN cN rfl nb.len cn (ac (am 5) ad)) aj (aX _)) (iX (dX (CD hu) (ba bi (ba bS (am 5) aj (λ_ _=>rfl)) aj (λ_ _=>rfl)) (am 6) (aX _)) (lH (aI zXa (hr.mono nofun) rfl aL (ac (ba bi (ba bS (am 5) aj (λ_ _=>rfl)) aj (λ_ _=>rfl)) ad)))))))))
   aP)
   (ae (q01 7 sc.nd (aI (CX:=j8 P w) yaP (hr.mono nofun) rfl dy (ac (am 0) (ac (am 6) (ac (am 1) ad)))))
   (ae (bJ (aU AC (am 7) ow (aX _))
   (ag (aH (dX d0 (aN cN rfl nb.len cn (ac (am 5) ad)) aj (aX _))))
   aP)
   (ag (aH (iX (dX d0 (aN cN rfl nb.len cn (ac (am 5) ad)) aj (aX _)) (iX (dX (CD hu) (ba bS (am 5) aj (λ_ _=>rfl)) (b6 (ac (am 6) (ac (am 7) ad))) (aX _)) (lH (aI zXa (hr.mono nofun) rfl aL (ac (ba bi (ba bS (am 5) aj (λ_ _=>rfl)) aj (λ_ _=>rfl)) ad)))))))))))))),?_⟩
  symm;refine⟨g,dx,sg,st,nm,as,rs,C,r,c,rfl,hG,a4,e,λJ=>q0Q a5 J,λ_ hb=>q0Q hb ⋯,λ_ _ lf H1 ts fs ss hlf a9 ybg hF a8 S Y=>?_⟩;refine h1 _ _ ?_;grind;refine⟨_,.lst a8,true,rfl,?_⟩;rw[q06 nofun];refine h1 _ _ ?_;grind;have g1:=e.g1;have g4:=e.g4;rw[aC];refine⟨av ⋯,?_⟩
  by_cases l:(1:Int)<(sg.length:Int)
  ·rw[q07 l];exact q H1 Y
  rw[q06 l];obtain⟨k,rfl⟩:∃k,sg=[k]:=by
   match sg,g1,l with
   | [k],_,_=>exact⟨k,rfl⟩
   |_::_::_,_,h=>exact q0Q (by simp only[Lb];omega) h
  refine h1 _ _ ?_;grind;refine⟨by have:=e.r6;omega,by have:=e.r6;omega,?_⟩;rw[K'];have hc6:=e.c6;have hr6:=e.r6;refine iF (n:=r) (f:=λ_=>some (V.str (tx (List.replicate c k)))) (λσ=>∃x,σ=[x,some (V.str (tx [k])),some (V.int (c:Int))]) ⟨_,rfl⟩ ⋯ ?_ ?_
  ·rintro j hj σ T M1 M0 ⟨y,rfl⟩ o k1 k0
   ext;refine⟨[k],rfl,c,rfl,e.c1,⋯,by simp,?_⟩;rw[List.flatten_replicate_singleton];exact k1 _ _ _ rfl o ⟨_,rfl⟩
  ·intro H2 s2 D b4
   refine h1 _ _ ?_;clear h1;have ep:List.filterMap (λ_=>some (V.str (tx (List.replicate c k)))) (List.range r)=aw (List.replicate r (List.replicate c k)):=by
    unfold aw;rw[List.map_replicate,show(λ_:Nat=>some (V.str (tx (List.replicate c k))))=some∘λ_=>V.str (tx (List.replicate c k)) from rfl,List.filterMap_eq_map,List.map_const',q0J]
   rw[ep];generalize z3:aG H2 D _=H3;obtain⟨s3,e3⟩:=jR b4 z3;have b2:ss=[k]:=List.perm_singleton.mp a9;subst b2;obtain⟨p,I⟩:∃p,p=List.replicate r (List.replicate c k):=⟨_,rfl⟩;rw[<- I]at e3;have a3:rect p r c:=by
    rw[I];exact⟨List.length_replicate,λx hx=>by rw[List.eq_of_mem_replicate hx];exact List.length_replicate⟩
   have G:p∈qm [k] r c:=iQ.mpr ⟨a3,λx hx s hs=>by
    rw[I]at hx;rw[List.eq_of_mem_replicate hx]at hs;exact K4.mpr (List.eq_of_mem_replicate hs)⟩
   have a6:qm [k] r c=[p]:=by
    have hl:=vM [k] r c;rw[q0Z,Nat.one_pow]at hl;obtain⟨q,hq⟩:=List.length_eq_one_iff.mp hl;rw[hq]at G ⊢;rw[K4.mp G]
   rw[a6]at hF;have b3:bB p:=λb0 a2 b5=>e.sl 47 ((iQ.mp G).2 b0 a2 47 b5) rfl;have Ep:kF rs C p r c:=⟨a3,e.r1,e.c1,e.r6,e.c6,b3,e.gd,e.nm,e.n8,e.r24⟩;have a:aA H1 H3:=s2.trans s3;have d:=a _ _ a8;refine ao λN1 h1=>?_;refine tP λa1 a0 O M=>?_;ext;refine⟨.inl ⟨⋯,⋯⟩,?_⟩;obtain⟨Z,hts⟩:∃Z,Z=ts:=⟨_,rfl⟩;have z:=S.1
   by_cases a7:18<(r:Int)*(c:Int)
   ·rw[q07 a7,O]
    clear O M a1 a0 h1;ext;refine⟨_,aR.of d,?_⟩;rw[K3,z];rcases hF.one with⟨rfl,_⟩ | ⟨v,rfl,hM⟩
    ·rw[q07 (by simp)]
     exact q H3 (Y.trans a)
    ·rw[q06 (by simp)]
     obtain⟨t,rfl⟩:=List.length_eq_one_iff.mp z;obtain⟨b,u,L⟩:=S.2 0 t (p,v) rfl rfl;have u:=a _ _ u;have L:=a _ _ L;refine⟨_,aR.of d,?_⟩;rw[q07 (by simp)];refine⟨_,aR.of d,_,rfl,_,rfl,_,gG.of u,_,rfl,Dw L e3 ⟨true,rfl,?_⟩⟩;rw[q07 rfl];refine⟨_,aR.of d,_,rfl,_,rfl,_,gG.of u,_,rfl,?_⟩;exact⟨_,rfl,q H3 (Y.trans a)⟩
   ·rw[q06 a7,M]
    clear O M a1 a0;ext;refine h1 _ _ ?_;grind;refine⟨g,dx,D,_,st,as,rs,C,p,r,c,_,rfl,hG.up (Y.trans a),a4,Ep,e3,.inr ⟨nm,rfl,λ_ T tb hB o=>h1 _ _ ?_,λh=>q0Q a5 h⟩⟩;clear h1;rcases hF.one with⟨rfl,J⟩ | ⟨v,rfl,hM⟩
    ·have hn:aK tb (bo p,nm)=none:=by
      cases h:aK tb (bo p,nm) with
      |none=>rfl
      |some v=>exact q0Q (hB.key _ _ h).2.2.1 (J v)
     rw[hn];symm;rw[q07 (by rfl)];refine⟨_,aR.of (o _ _ d),?_⟩;rw[K3,z];exact q T (Y.trans (a.trans o))
    ·have hn:aK tb (bo p,nm)=some v:=by
      obtain⟨v',l',h'⟩:=hB.min Ep (aY.self Ep.hp Ep.r0 Ep.c0) hM.1;rw[h',Int.le_antisymm l' (hM.2 _ (hB.key _ _ h').2.2.1)]
     rw[hn];symm;rw[q06 (λh=>nomatch h)];refine h1 _ _ ?_;clear h1;obtain⟨t,rfl⟩:=List.length_eq_one_iff.mp z;obtain⟨b,u,L⟩:=S.2 0 t (p,v) rfl rfl;have u:=o _ _ (a _ _ u);have L:=o _ _ (a _ _ L);have m:=o _ _ d;have e4:=o _ _ e3;ext;refine⟨_,aR.of m,?_⟩;rw[q07 (by simp)];refine⟨_,aR.of m,_,rfl,av nofun,λU b1=>?_⟩;have B:aA T (aG T U (.tup [.ref D,.int v])):=ai b1;have e5:aG T U (.tup [.ref D,.int v]) U=some (.tup [.ref D,.int v]):=af;show AU K false (.ref t) (.ref U) (aG T U (.tup [.ref D,.int v])) _;generalize aG T U (.tup [.ref D,.int v])=H5 at B e5 ⊢;refine .inl ⟨_,yK _ _,.inr ⟨yf (B _ _ u) (B _ _ L),yf e5 (B _ _ e4)⟩,true,rfl,?_⟩;rw[q07 rfl];refine⟨_,aR.of (B _ _ m),_,rfl,_,rfl,_,gG.of (B _ _ u),_,rfl,?_⟩;exact⟨_,rfl,q H5 (Y.trans (a.trans (o.trans B)))⟩
theorem Dy{p:aJ}{st:LY}{rs:Yaa}(hst:st∈p)(hr:∀r∈rs,u6 p sg r):∃nms:List (List Nat),(aV (tx st) rs).map (·.1)=nms.map tx/\(∀x∈rs,x.2.n∈nms)/\nms.length<=p.length/\∀n∈nms,n∈p:=by
 have o:∀z∈(aV (tx st) rs).map (·.1),z∈p.map tx:=λz a=>by
  rcases(kT _ _ _).mp a with e | ⟨q,j,e⟩
  ·rw[e];exact List.mem_map_of_mem hst
  ·unfold F5 at j
   obtain⟨r,d,rfl⟩:=LK.mp j;have R:=hr r d;rcases e with e | e
   ·rw[e];exact List.mem_map_of_mem R.n
   ·obtain⟨y,b,rfl⟩:=LK.mp e
    refine List.mem_map_of_mem ?_;obtain⟨k,v⟩:=r;have w:y=v.o1\/y=v.o2:=by
     rcases gS R.good.k4 with rfl | rfl | rfl | rfl
     ·exact q0Q b List.not_mem_nil
     ·simpa[cg]using b
     ·simpa[cg]using b
     ·exact .inl (by simpa[cg]using b)
    rcases w with rfl | rfl
    ·exact R.o1
    ·exact R.o2
 have g:=(i9 (tx st) _ rs rfl).nd;have i:∀x∈rs,tx x.2.n∈(aV (tx st) rs).map (·.1):=λx c=>(kT _ _ _).mpr (.inr ⟨_,List.mem_map_of_mem c,.inl rfl⟩);have l:=ThM.nd_len g o;rw[K3 (as:=p)]at l;generalize(aV (tx st) rs).map (·.1)=ks at *;have u:∀z∈ks,tx z.cps.toList=z/\z.cps.toList∈p:=λz a=>by
  obtain⟨m,B,rfl⟩:=LK.mp (o z a);rw[dg];exact⟨rfl,B⟩
 refine⟨ks.map λz=>z.cps.toList,?_,λx c=>LK.mpr ⟨_,i x c,dg _⟩,by rw[K3];exact l,λn g=>?_⟩
 ·rw[Le]
  exact((q0K (λz a=>(u z a).1)).trans (List.map_id' ks)).symm
 ·obtain⟨z,a,rfl⟩:=LK.mp g
  exact(u z a).2
theorem AW{q:Nat×RV}(h4:q.1<4):pJ (vh q) 0=some (V.str (tx q.2.n)):=by
 obtain⟨a,v⟩:=q;have:a=0\/a=1\/a=2\/a=3:=by simp at h4;omega
 rcases this with rfl | rfl | rfl | rfl<;>rfl
theorem oX{α β:Type}(pr:α->Bool)(g:α->β):∀l:List α,l.filterMap (λz=>if pr z=true then some (g z) else none)=(l.filter pr).map g
 | []=>rfl
 |x::l=>by
  rw[q0U,List.filter_cons];cases e:pr x
  ·simp[oX pr g l]
  ·simp[oX pr g l]
theorem Ap(p:aJ):(aw p).all iH=true:=by
 have a:aw p=(p.map tx).map V.str:=by unfold aw;rw[Le];rfl
 rw[a];exact zS _
def mx:List (List Nat):=[[81],[81,81],[81,81,81],[81,81,81,81],[90,81]]
theorem AZ:[V.str (Str.ofString "Q"),V.str (Str.ofString "QQ"),V.str (Str.ofString "QQQ"),V.str (Str.ofString "QQQQ"),V.str (Str.ofString "ZQ")]=mx.map λz=>V.str (tx z):=by
 have h1:Str.ofString "Q"=tx [81]:=by decide +kernel
 have h2:Str.ofString "QQ"=tx [81,81]:=by decide +kernel
 have c:Str.ofString "QQQ"=tx [81,81,81]:=by decide +kernel
 have b:Str.ofString "QQQQ"=tx [81,81,81,81]:=by decide +kernel
 have a:Str.ofString "ZQ"=tx [90,81]:=by decide +kernel
 rw[h1,h2,c,b,a];rfl
theorem BX{p:aJ}(hp:p.length=4):∃z0 zr,mx.filter (λz=>decide (z∉p))=z0::zr:=by
 cases e:mx.filter (λz=>decide (z∉p)) with
 |cons z zr=>exact⟨z,zr,rfl⟩
 |nil=>
  exfalso;have b:∀x∈mx,x∈p:=λx a=>by
   have:=List.filter_eq_nil_iff.mp e x a
   simpa using this
  have:=i4 (l:=mx) (L:=p) nofun b;rw[hp]at this;exact q0Q this nofun
abbrev rM:Stmt:=fC 77
inductive rX(K:W.Frag)(vs:List V)(H:Hp)(Q:VK)(_E:XK):Prop
 |mk (a:Addr) (ns:List Int) (_:vs=[.ref a]) (_:aR K H a (ns.map V.int)) (_:∀H',Q (.bl true) H')
theorem EY:aB ["_law_script","_law_signs_here","_law_names_here","_law_rules","_law_rows","_law_columns","_law_grammar_here","_law_name"] ["_law_script"] (ak rM):=by walk_at "c"
theorem E3{f:Addr}(F:dj K "law" "law" rM f fd)(nb:NB mg)(zia:↑dl 1 "_law_cell" ["_law_script","_law_k"] (lv K))(zDb:↑dl 2 "_law_cells" ["_law_script","_law_begin","_law_most"] (pH K))(zEb:↑dl 1 "_law_signs" ["_law_cell_here","_law_most"] n0)(zFb:↑dl 1 "_law_names" ["_law_cell_here"] oY)
  (zGb:↑dl 1 "_law_drawn" ["_law_cell_here","_law_signs_here","_law_names_here"] oQ) (zkb:↑dl 7 "_law_grammar" ["_law_signs_here","_law_start","_law_rules"] (kh R CG)) (zHb:↑dl 1 "_law_power" ["_law_number","_law_many"] oB) (zub:↑dl 11 "_law_word" ["_law_grammar_here","_law_name","_law_rows","_law_columns"] (rC R CG)) (zPa:↑dl 12 "_law_all_alike" ["_law_grammar_here","_law_name","_law_signs_here","_law_rows","_law_columns"] (oO R CG)):↑aS 13 f fd ["_law_script"] (rX K):=by
 have sc:=EY;walk_at "f"
 ·obtain⟨a,ns,rfl,ha,q⟩:=h
  have hu:=hr.units;refine⟨_,(ae (aF (i:=1) sc.nd rfl (Or.inr rfl) (aI zEb (hr.mono nofun) rfl aL (ac (aI zia (hr.mono nofun) rfl aL (ac (am 0) (ce ad))) (ce ad))))
   (ae (aF (i:=2) sc.nd rfl (Or.inr rfl) (aI zFb (hr.mono nofun) rfl aL (ac (aI zia (hr.mono nofun) rfl aL (ac (am 0) (ce ad))) ad)))
   (ae (hZ (i:=3) ["_law_cell_here"] [1,2] sc.nd rfl (Or.inl rfl) rfl  rfl (bz.of (by kernel_rfl)) (by kernel_rfl) (aW (aI zDb (hr.mono nofun) rfl aL (ac (am 0) (ce (ce ad)))))
    (λ_ _ _ _=>(aD (i:=0) (by show(["_law_cell_here","_law_signs_here","_law_names_here"]:List Str).Nodup;decide +kernel) rfl (Or.inl rfl))) (λ_ _ _ _=>cv) (λ_ _ _ _=>(aI zGb (hr.mono nofun) rfl aL (ac (am 0) (ac (am 1) (ac (am 2) ad))))))
   (ae (q01 4 sc.nd (aE (bD.m0 bW) aj (aE (bD.m1 bG) (aI zia (hr.mono nofun) rfl aL (ac (am 0) (ce ad))) aj)))
   (ae (q01 5 sc.nd (aE (bD.m0 bW) aj (aE (bD.m1 bG) (aE (bD.m1 bY) (aI zia (hr.mono nofun) rfl aL (ac (am 0) (ce ad))) aj) aj)))
   (ae (q01 6 sc.nd (aI zkb (hr.mono nofun) rfl aL (ac (am 1) (ac (ba bS (am 2) aj (λ_ _=>rfl)) (ac (am 3) ad)))))
   (ae (q01 7 sc.nd (ba bS (am 2) aj (λ_ _=>rfl)))
   (ae (bJ (aU d0 (aE (bD.m1 bG) (aI zia (hr.mono nofun) rfl aL (ac (am 0) (ce ad))) aj) aj (aX _))
   (ag (q01 7 sc.nd (ba bi (ba bS (am 3) (aE (bD.m1 bG) (aE (bD.m1 bY) (aI zia (hr.mono nofun) rfl aL (ac (am 0) (ce ad))) aj) (aN cN rfl nb.len cn (ac (am 3) ad))) (λ_ _=>rfl)) aj (λ_ _=>rfl))))
   aP)
   (ae (bJ (aU d0 (aE (bD.m1 bG) (aI zia (hr.mono nofun) rfl aL (ac (am 0) (ce ad))) aj) aj (aX _))
   (ae (q01 7 sc.nd (ba bS (cq ["_law_one"] [2] rfl (bz.of (by kernel_rfl)) (by kernel_rfl) (aW (bA (cV (cV (cV (cV (cV ad)))))))
    (λ_ _ _ _=>(aD (i:=0) (by show(["_law_one","_law_names_here"]:List Str).Nodup;decide +kernel) rfl (Or.inl rfl))) (λ_ _ _ _=>(nh (aU (qi (K:=K) rfl) (am 0) (am 1) (by with_unfolding_all rfl)))) (λ_ _ _ _=>(am 0))) aj (λ_ _=>rfl)))
   (ag (aH (dX d0 (aI zub (hr.mono nofun) rfl aL (ac (am 6) (ac (am 7) (ac (am 4) (ac (am 5) ad))))) iE (aX _)))))
   aP)
   (ae (bJ (aU (bD.m0 mh) (aI zHb (hr.mono nofun) rfl aL (ac (aN br rfl nb.len cn (ac (am 1) ad)) (ac (aE (bD.m1 cW) (am 4) (am 5)) ad))) aj (aX _))
   (ag (aH (dX d0 (aI zub (hr.mono nofun) rfl aL (ac (am 6) (ac (am 7) (ac (am 4) (ac (am 5) ad))))) iE (aX _))))
   aP)
   (ag (aH (aI zPa (hr.mono nofun) rfl aL (ac (am 6) (ac (am 7) (ac (am 1) (ac (am 4) (ac (am 5) ad)))))))))))))))))),?_⟩
  symm;refine⟨a,ns,0,rfl,ha,⋯,λc0=>⟨c0,rfl,λD H1 T s1=>h1 _ _ ?_⟩⟩;grind;refine⟨a,ns,1,rfl,s1.seq ha,⋯,λc1=>⟨c1,rfl,λb p H2 hb0 hb hp a7 s2=>h1 _ _ ?_⟩⟩;clear h1;have b3:=s1.trans s2;symm;refine⟨a,ns,4,6,rfl,b3.seq ha,⋯,⋯,⋯,λlc cs H4 hlc0 d3 cs1 cs8 s4=>⟨lc,rfl,⟨_,aR.of d3⟩,?_⟩⟩;refine c_ (xs:=cs.map V.int) (λi I σ H'=>aA H4 H'/\i<=cs.length/\(∃(k:L5) (B:Yaa),I=k.map V.ref/\k.length=i/\B.length=i/\(∀(i:Nat) t r,k[i]?=some t->B[i]?=some r->H' t=some (.tup (vh r)))/\∀r∈B,u6 p D r)/\∃z,σ=[z,some (V.str (tx D)),some (V.ref b)]) ⟨λ_ _ e=>e,Lo _,⟨[],[],rfl,rfl,rfl,(λi t r e=>by simp at e),(λr h=>nomatch h)⟩,_,rfl⟩ ?_ ?_ ?_ ?_ ?_
  ·rintro i I σ H' ⟨_,hi,⟨k,B,rfl,hl,_⟩,_⟩
   rw[K3,hl];exact bj ⋯
  ·rintro i I σ H' ⟨_,hi,_⟩
   rw[K3];exact hi
  ·rintro i I σ H' ⟨sm,_⟩
   exact aR.of (sm _ _ d3)
  ·rintro i x I σ H' hx ⟨sm,hi,⟨k,B,rfl,hl,Y,b0,J⟩,z,rfl⟩
   have d2:i<cs.length:=by have:=(K1.mp hx).1;rwa [K3]at this
   rw[K5,K0 d2]at hx;cases hx;ext;refine⟨_,b,p,D,rfl,sm _ _ (s4 _ _ hb),hp,a7,T,λt r H5 ro ht s5=>?_⟩;refine⟨sm.trans s5,d2,k++[t],by rw[Lc];rfl,by rw[Lm,hl];rfl,B++[r],by rw[Lm,Y];rfl,λj t' r' O e2=>?_,λr' f0=>?_⟩
   ·by_cases hj:j<k.length
    ·rw[Ll hj]at O
     rw[Ll ⋯]at e2;exact s5 _ _ (b0 j t' r' O e2)
    ·have Z:j=k.length:=by
      have:=(K1.mp O).1;simp at this;omega
     subst Z;rw[Lk (Ln _),Nat.sub_self]at O;rw[hl,<- Y,Lk (Ln _),Nat.sub_self]at e2;cases O;cases e2
     exact ht
   ·rcases Ld.mp f0 with h | h
    ·exact J r' h
    ·rw[K4.mp h];exact ro
  rintro I σ H5 ⟨s5,_,⟨k,B,rfl,hl,Y,b0,J⟩,z,rfl⟩ lr f3;refine h1 _ _ ?_;clear h1;rw[K3]at hl Y;have t6:=ai (o:=.lst (k.map V.ref)) f3;have a3:hV (aG H5 lr (.lst (k.map V.ref))) lr k B:=⟨af,⋯,λi t r O e2=>t6 _ _ (b0 i t r O e2)⟩;have S:=((b3.trans s4).trans s5).trans t6;have a9:=t6 _ _ (s5 _ _ (s4 _ _ hb));generalize aG H5 lr (.lst (k.map V.ref))=H6 at a3 S a9 ⊢;have L:0<p.length:=by omega
  have d1:p[0]?=some (p[0]'L):=K0 L;have C:p[0]'L∈p:=K_ L;generalize p[0]'L=st at d1 C;have hstn:=iZ (a7 _ C);have hsl:=jG T;have e3:pJ (aw p) 0=some (V.str (tx st)):=(show pJ _ ((0:Nat):Int)=_ from bV (by unfold aw;rw[K5,d1];rfl));have a2:∀r∈B,kJ r:=λr hr=>(J r hr).good;obtain⟨G,U,a0,hnl2,f2⟩:=Dy C J;symm;refine⟨a,ns,2,rfl,S.seq ha,⋯,λc2=>⟨_,rfl,h1 _ _ ?_⟩⟩;clear h1;obtain⟨r,hr⟩:∃n:Nat,1+c2%6=(n:Int):=⟨(1+c2%6).toNat,⋯⟩;have a6:1<=r/\r<=6:=by omega
  rw[hr];symm;refine⟨a,ns,2,rfl,S.seq ha,⋯,λc3=>⟨_,rfl,h1 _ _ ?_⟩⟩;clear h1;obtain⟨c,hc⟩:∃n:Nat,1+c3/6%6=(n:Int):=⟨(1+c3/6%6).toNat,⋯⟩;have a8:1<=c/\c<=6:=by omega
  rw[hc];have hE:DO B G D r c:=⟨a6.1,a6.2,a8.1,a8.2,⋯,⋯,λs hs e=>by
   have:=yB T hs;rw[e]at this;exact q0Q this (by decide +kernel),a2,a0,⋯,⋯⟩
  symm;refine⟨_,aR.of a9,_,e3,lr,D,st,k,B,rfl,a3,a2,⋯,⋯,⋯,Av T C a7 ⋯ ⋯ J,λgr gd ga H7 g7 s7=>h1 _ _ ?_⟩;clear h1;have a5:=S.trans s7;have d4:=s7 _ _ a9;have b1:=a3.up s7;symm;refine⟨_,aR.of d4,_,e3,h1 _ _ ?_⟩;clear h1;have c9:st∈G:=by
   have:tx st∈(aV (tx st) B).map (·.1):=(kT _ _ _).mpr (.inl rfl);rw[U]at this;obtain⟨m,hm,e⟩:=LK.mp this;rw[<- dD e];exact hm
  refine ao λN1 h1=>?_;refine tP λu l g d=>?_;ext;have b4:∀nm,nm∈G->N1 [some (V.ref a),some (V.str (tx D)),some (V.ref b),some (V.ref lr),some (V.int (r:Int)),some (V.int (c:Int)),some (V.ref gr),some (V.str (tx nm))] H7:=by
   intro nm a1;refine h1 _ _ ?_;clear h1 g d u l;refine ao λN1 h1=>?_;refine tP λu l g d=>?_;ext;refine⟨a,ns,3,rfl,a5.seq ha,⋯,λc5=>?_⟩;refine⟨_,rfl,?_⟩
   by_cases d6:c5%12=2
   ·rw[q07 d6,g]
    clear g d u l h1;obtain⟨z0,zr,b8⟩:=BX hp;have b5:z0∉p:=by
     have:z0∈mx.filter (λz=>decide (z∉p)):=by rw[b8];exact q0B
     simpa using(List.mem_filter.mp this).2
    ext;refine⟨av nofun,λpc f1=>?_⟩;have a4:=ai (o:=.lst [V.str (Str.ofString "Q"),V.str (Str.ofString "QQ"),V.str (Str.ofString "QQQ"),V.str (Str.ofString "QQQQ"),V.str (Str.ofString "ZQ")]) f1;have b2:aG H7 pc (.lst [V.str (Str.ofString "Q"),V.str (Str.ofString "QQ"),V.str (Str.ofString "QQQ"),V.str (Str.ofString "QQQQ"),V.str (Str.ofString "ZQ")]) pc=some (.lst (mx.map λz=>V.str (tx z))):=by rw[af,AZ]
    generalize aG H7 pc (.lst [V.str (Str.ofString "Q"),V.str (Str.ofString "QQ"),V.str (Str.ofString "QQQ"),V.str (Str.ofString "QQQQ"),V.str (Str.ofString "ZQ")])=H11 at a4 b2 ⊢;have d5:=a4 _ _ d4;refine⟨⟨_,aR.of b2⟩,?_⟩;refine jC (as:=mx) (emb:=λz=>V.str (tx z)) (f:=λz=>if decide (z∉p)=true then some (V.str (tx z)) else none) (λσ=>∃x,σ=[x,some (V.ref b)]) ⟨_,rfl⟩ (λH' s'=>aR.of (s' _ _ b2)) nofun ?_ ?_
    ·rintro i x hx σ H' M1 M0 ⟨y,rfl⟩ s' e8 e9
     ext;have a0:Gw (V.str (tx x)) (aw p)=decide (x∈p):=by
      have e0:aw p=(p.map tx).map V.str:=by unfold aw;rw[Le];rfl
      rw[e0,vV]
      by_cases v:x∈p
      ·rw[q09 v,q09 (List.mem_map_of_mem v)]
      ·rw[q08 v,q08 (λh=>by obtain⟨y,hy,e⟩:=LK.mp h;exact v (by rw[<- dD e];exact hy))]
     refine⟨b,_,rfl,.inl (aR.of (s' _ _ d5)),rfl,Ap p,_,rfl,?_⟩;rw[a0]
     by_cases v:x∈p
     ·rw[q09 v,q06 nofun]
      exact e9 _ _ (by rw[q06 (by simpa using v)]) s' ⟨_,rfl⟩
     ·rw[q08 v,q07 nofun]
      exact e8 _ _ _ (by rw[q07 (by simpa using v)]) s' ⟨_,rfl⟩
    ·intro H12 e6 lq f4
     rw[oX,b8];have e5:=(a4.trans e6).trans (ai (o:=.lst ((z0::zr).map λz=>V.str (tx z))) f4);refine⟨_,aR.of af,_,(show pJ ((z0::zr).map λz=>V.str (tx z)) ((0:Nat):Int)=some (V.str (tx z0)) from bV rfl),gr,gd,D,st,z0,ga,B,G,r,c,rfl,g7.up e5,U,hE,.inl ⟨λh=>b5 (f2 _ h),λM e4=>⟨rfl,?_⟩⟩⟩;exact q M
   ·rw[q06 d6,d]
    clear g d u l;ext;refine h1 _ _ ?_;clear h1;have h300:(D.length:Int) ^ (r*c)=((D.length ^ (r*c):Nat):Int):=(Int.natCast_pow _ _).symm;refine ao λN1 h1=>?_;refine tP λu l g d=>?_;ext;have e7:r*c<=36:=Lv (Nat.mul_le_mul a6.2 a8.2) nofun;refine⟨by rw[aC];exact av ⋯,.inl ⟨⋯,⋯⟩,D.length,r*c,by rw[aC,Int.natCast_mul],⋯,e7,_,rfl,?_⟩
    by_cases h3:300<D.length ^ (r*c)
    ·rw[q07 (by exact_mod_cast h3),g]
     clear g d u l h1;ext;refine⟨gr,gd,D,st,nm,ga,B,G,r,c,rfl,g7,U,hE,.inr ⟨a1,h3,λM e4=>⟨rfl,?_⟩⟩⟩;exact q M
    ·rw[q06 (by exact_mod_cast h3),d]
     clear g d u l;ext;refine h1 _ _ ?_;ext;exact⟨gr,gd,D,st,nm,ga,B,G,r,c,rfl,g7,U,hE,a1,⋯,λM _=>q M⟩
  refine⟨a,ns,3,rfl,a5.seq ha,⋯,λc4=>?_⟩;refine⟨_,rfl,?_⟩
  by_cases h3:c4%3=1
  ·rw[q07 h3,g]
   clear g d u l;ext;refine⟨a,ns,3,rfl,a5.seq ha,⋯,λc6=>?_⟩;refine⟨_,rfl,_,aR.of b1.1,?_⟩;rw[K3];obtain⟨j,hj⟩:∃j:Nat,c6/3%(k.length:Int)=(j:Int):=⟨_,(LR (LP _ ⋯)).symm⟩;have Z:j<k.length:=by have:=LQ (c6/3) (b:=(k.length:Int)) ⋯;omega
   have O:k[j]?=some (k[j]'Z):=K0 Z;have e2:B[j]?=some (B[j]'⋯):=K0 ⋯;have ht:=b1.2.2 j _ _ O e2;have hm:=K6 e2;have d7:=AW (a2 _ hm).k4;exact⟨⋯,_,aR.of b1.1,_,by rw[hj];exact bV (by rw[K5,O];rfl),_,rfl,_,gG.of ht,_,d7,b4 _ (a0 _ hm)⟩
  ·rw[q06 h3,d]
   clear g d u l;ext;exact b4 st c9
end
theorem bdc{n:Nat}{P:List Value->Prop}(h:∀a us,us.length=n->P (a::us)):∀us:List Value,us.length=n+1->P us:=by
 intro us e;cases us with|nil=>cases e|cons a us=>exact h a us (Nat.succ.inj e)
theorem bd0{P:List Value->Prop}(h:P []):∀us:List Value,us.length=0->P us:=by
 intro us e;cases us with|nil=>exact h|cons a us=>cases e
theorem bd1{P:List Value->Prop}(h:∀a,P [a]):∀us:List Value,us.length=1->P us:=bdc λa=>bd0 (P:=λus=>P (a::us)) (h a)
theorem bd2{P:List Value->Prop}(h:∀a b,P [a,b]):∀us:List Value,us.length=2->P us:=bdc λa=>bd1 (P:=λus=>P (a::us)) (h a)
theorem bd3{P:List Value->Prop}(h:∀a b c,P [a,b,c]):∀us:List Value,us.length=3->P us:=bdc λa=>bd2 (P:=λus=>P (a::us)) (h a)
theorem bd4{P:List Value->Prop}(h:∀a b c d,P [a,b,c,d]):∀us:List Value,us.length=4->P us:=bdc λa=>bd3 (P:=λus=>P (a::us)) (h a)
theorem bd5{P:List Value->Prop}(h:∀a b c d e,P [a,b,c,d,e]):∀us:List Value,us.length=5->P us:=bdc λa=>bd4 (P:=λus=>P (a::us)) (h a)
def FK(K:W.Frag)(x:Str)(st:Stmt)(f:Addr):Prop:=W.nsIn K mainGlobals x=some (some (.ref f))/\∃oc od osl kV doc pm an cdv ct,K.lookup f=some ⟨oc,od,.func (W.fnOf x x (cR st) (cB st) (ak st) .none kV doc pm an cdv ct),osl⟩/\W.codeIn K cdv x=true/\W.keepIn K (.ref f)=true
theorem fk_mk{K:W.Frag}{st:Stmt}{f:Addr}{oc:Value}{od an:Mc}{osl:Array (Option Value)}{kV doc pm cdv ct:Value}(a:W.nsIn K mainGlobals x=some (some (.ref f)))(l:K.lookup f=some ⟨oc,od,.func (W.fnOf x x (cR st) (cB st) (ak st) .none kV doc pm an cdv ct),osl⟩)(c:W.codeIn K cdv x=true)(k:W.keepIn K (.ref f)=true):FK K x st f:=⟨a,oc,od,osl,kV,doc,pm,an,cdv,ct,l,c,k⟩
def MK(K:W.Frag)(x q:Str)(st:Stmt)(f:Addr):Prop:=∃oc od osl kV doc pm an cdv ct,K.lookup f=some ⟨oc,od,.func (W.fnOf x q (cR st) (cB st) (ak st) .none kV doc pm an cdv ct),osl⟩/\W.codeIn K cdv q=true/\W.keepIn K (.ref f)=true/\W.isFn K (.ref f)=true
theorem mk_mk{K:W.Frag}{st:Stmt}{f:Addr}{oc:Value}{od an:Mc}{osl:Array (Option Value)}{kV doc pm cdv ct:Value}(l:K.lookup f=some ⟨oc,od,.func (W.fnOf x q (cR st) (cB st) (ak st) .none kV doc pm an cdv ct),osl⟩)(c:W.codeIn K cdv q=true)(k:W.keepIn K (.ref f)=true)(i:W.isFn K (.ref f)=true):MK K x q st f:=⟨oc,od,osl,kV,doc,pm,an,cdv,ct,l,c,k,i⟩
theorem FK.cal{K:W.Frag}{st:Stmt}{f:Addr}{mg:L6}{CX:iy}{ps:L9}{sp:Sp}(P:L8)(w:Mb)(base:Heap)(q:FK K x st f)(X:K.In h)(G:h.Ns mainGlobals mg)
  (ok:∀fd,dj K x x st f fd->mg x=some (.ref f)->W.keepIn K (.ref f)=true->dO K fd ps []->aS P w K mg base CX k f fd ps sp)
  (hb:∀(kV doc pm:Value) (an:Mc) (cdv ct:Value) (us:L4),us.length=ps.length->bindArgs (W.fnOf x x (cR st) (cB st) (ak st) .none kV doc pm an cdv ct) ⟨us,[]⟩=pure (ps.zip us):=by first|exact λ_ _ _ _ _ _=>bd1 λ_=>rfl|exact λ_ _ _ _ _ _=>bd2 λ_ _=>rfl|exact λ_ _ _ _ _ _=>bd3 λ_ _ _=>rfl|exact λ_ _ _ _ _ _=>bd4 λ_ _ _ _=>rfl):dl P w K mg base CX k x ps sp:=by
 obtain⟨a,oc,od,osl,kV,doc,pm,an,cdv,ct,l,c,d⟩:=q;have F:=cM l c d;have b:=F.binds hb;exact⟨_,_,ok _ F (W.mg_of X G a) d b,W.mg_of X G a,d,b⟩
def G3(K:W.Frag)(x:Str)(st:Stmt)(f:Addr):Prop:=W.nsIn K mainGlobals x=some (some (.ref f))/\∃oc od osl kV doc pm an cdv ct dT o n,K.lookup f=some ⟨oc,od,.func (W.fnOf x x (cR st) (cB st) (ak st) (.ref dT) kV doc pm an cdv ct),osl⟩/\W.codeIn K cdv x=true/\W.keepIn K (.ref f)=true/\K.lookup dT=some o/\o.data=.seq #[.none] n
theorem fkd_mk{K:W.Frag}{st:Stmt}{f dT:Addr}{oc:Value}{od an:Mc}{osl:Array (Option Value)}{kV doc pm cdv ct:Value}{o:Obj}{n:Nat}(a:W.nsIn K mainGlobals x=some (some (.ref f)))(l:K.lookup f=some ⟨oc,od,.func (W.fnOf x x (cR st) (cB st) (ak st) (.ref dT) kV doc pm an cdv ct),osl⟩)(c:W.codeIn K cdv x=true)(k:W.keepIn K (.ref f)=true)(t:K.lookup dT=some o)(d:o.data=.seq #[.none] n):G3 K x st f:=⟨a,oc,od,osl,kV,doc,pm,an,cdv,ct,dT,o,n,l,c,k,t,d⟩
theorem G3.cal{K:W.Frag}{st:Stmt}{f:Addr}{base:Heap}{mg:L6}{CX:iy}{ps:L9}{sp:Sp}(q:G3 K x st f)(X:K.In h)(G:h.Ns mainGlobals mg)
  (ok:∀fd dT,Dj K x x st f fd dT->aS P w K mg base CX k f fd ps sp)
  (hb:∀(dT:Addr) (kV doc pm:Value) (an:Mc) (cdv ct:Value) (us:L4),us.length=ps.length->∃g,bindArgs (W.fnOf x x (cR st) (cB st) (ak st) (.ref dT) kV doc pm an cdv ct) ⟨us,[]⟩=seqItems? (.ref dT) >>= g/\g (some #[.none])=pure (ps.zip us)):dl P w K mg base CX k x ps sp:=by
 obtain⟨a,j,i,b,kV,doc,pm,an,cdv,ct,dT,o,n,l,c,m,t,d⟩:=q;refine⟨f,_,ok _ dT ⟨j,i,kV,doc,pm,an,cdv,ct,b,rfl,l,c⟩,W.mg_of X G a,m,λs us p e=>?_⟩;rw[Ly]at e ⊢;obtain⟨g,h1,h2⟩:=hb dT kV doc pm an cdv ct us e;exact BindsTo.of_defaults rfl (p _ _ t) d h1 h2
theorem all_mk{l:W.OpenLaw}{K:W.Frag}{mg:L6}{fa:Addr}(X:K.In h)(G:h.Ns mainGlobals mg)(J_:mg "law"=some (.ref fa))
  (a1:FK K "only_of" lM f1) (a2:FK K "is_name" ld f2) (a3:FK K "are_signs" iC f3) (a4:FK K "check_made_of" eG f4) (a5:FK K "numbers_by_name" dI f5) (a6:FK K "mirror" nQ f6) (a7:FK K "column_from_below" dk f7) (a8:FK K "quarter" lQ f8) (a9:FK K "turned" nz f9) (IK:FK K "after" tL f10) (J0:FK K "back" wu f11) (Jm:FK K "shown" sf f12) (II:FK K "windows_of" gY f13) (Ji:FK K "cut_out" lP f14) (Kh:FK K "cells_then_rows" dG f15) (J1:FK K "seen_in" l8 f16) (J3:FK K "parted" nv f17) (JN:FK K "parted_texts" fg f18) (Jk:FK K "cost_by" l6 f19) (Kj:FK K "coming" n9 f20) (KA:FK K "lower" rY f21) (Iw:FK K "put_together" fw f22) (Kg:FK K "turn_about" gJ f23) (IT:FK K "enter_turnings" dR f24) (IP:FK K "enter_seen" gM f25) (IZ:FK K "table_of" jW f26) (I0:FK K "name_asked" h_ f27) (I_:G3 K "least_cost" gO f28) (Jc:FK K "how_many" jD f29) (IM:FK K "chains" nW f30) (JH:FK K "all_pictures" fB f31) (JS:FK K "pictures_of" fX f32) (JM:FK K "_law_cell" oE f33) (Jh:FK K "_law_cells" lh f34) (JE:FK K "_law_whole" kX f35) (KF:FK K "_law_signs" lx f36) (Kz:FK K "_law_names" lA f37) (IL:FK K "_law_rule" pp f38) (KL:FK K "_law_grammar" iK f39) (Kl:FK K "_law_drawn" lR f40) (JR:FK K "_law_power" lF f41) (Jb:FK K "_law_word" oN f42) (Ix:FK K "_law_all_alike" gc f43) (Kn:FK K "law" rM f44)
  {yac yaf zxa zda zna zaa zja zba zla zca zoa zga zya zsa zua zza zea zpa zKa zAa zBa zma yaa ya0 yaZ yad yae:Addr} {ybn ybD ybz ybJ ybv ybC ybt ybF ybB:Tok} {ybx ybq ybh:Mc} {ybf ybk ybc:ClassData} {ybl ybP ybG:Array (Option Value)}  (C8:W.nsIn K mainGlobals "NoName"=some (some (.ref yac))) (uF:K.lookup yac=some ⟨.type "type",ybx,.cls ybf,ybl⟩) (vm:W.excIn K yac [.type "ValueError",.type "Exception",.type "BaseException",.type "object"] "ValueError.__new__"=true) (zM:W.findIn K (.ref yac) "__getattribute__"=some (some (.builtin "BaseException.__getattribute__"))) (Aq:W.findIn K (.ref yac) "__getattr__"=some none) (Ae:W.mroIn K yac (.type "BaseException")=some true) (Af:W.mroIn K yac (.type "object")=some true) (zm:W.findIn K (.ref yac) "__class__"=some (some (.builtin "object.__class__"))) (DR:W.specialIn K (.builtin "object.__class__") "__get__"=some (some (.builtin "getset_descriptor.__get__"))) (Dg:W.takesIn K (.builtin "object.__class__")=some true) (Ah:W.nsIn K mainGlobals "CAPITALS"=some (some (.str "ABCDEFGHIJKLMNOPQRSTUVWXYZ" ybn))) (DV:W.nsIn K mainGlobals "SMALLS"=some (some (.str "abcdefghijklmnopqrstuvwxyz" ybD))) (pP:W.nsIn K mainGlobals "LONGEST_NAME"=some (some (.int 4 ybz))) (Gc:W.nsIn K mainGlobals "Rule"=some (some (.ref yaf))) (Fs:W.specialIn K (.ref yaf) "__getattribute__"=some (some (.builtin "type.__getattribute__"))) (FD:W.readsIn K yaf (.type "type")=true) (mO:W.findCls K (.ref yaf) (.type "type") "__init__"=some (.val (.ref zxa))) (mH:MK K "__init__" "Rule.__init__" fS zxa) (Ay:W.nsIn K mainGlobals "CellRule"=some (some (.ref zda))) (IH:W.plainGet K zda Str.empty=true) (Jd:W.hasDictIn K zda=true) (JD:W.plainOver K zda=true) (IN:W.findIn K (.ref zda) "__setattr__"=some (some (.builtin "object.__setattr__"))) (Jy:W.findIn K (.ref zda) "__class__"=some (some (.builtin "object.__class__"))) (Jx:W.mroIn K zda (.type "object")=some true) (JP:W.findIn K (.ref zda) "name"=some none) (Jl:W.findIn K (.ref zda) "cost"=some none) (Jr:W.findIn K (.ref zda) "part_names"=some none) (Jo:W.findIn K (.ref zda) "sign"=some none) (xp:W.makesIn K zda=true) (xB:W.findIn K (.ref zda) "__init__"=some (some (.ref zna))) (jp:MK K "__init__" "CellRule.__init__" fG zna) (xj:W.keepIn K (.ref zda)=true) (KK:W.kitOne K (.ref zda) (.ref yaf)=some true) (H_:W.kitOne K (.ref zda) (.ref zda)=some true) (u0:W.nsIn K mainGlobals "BesideRule"=some (some (.ref zaa))) (KJ:W.plainGet K zaa Str.empty=true) (KH:W.hasDictIn K zaa=true) (JV:W.plainOver K zaa=true) (JZ:W.findIn K (.ref zaa) "__setattr__"=some (some (.builtin "object.__setattr__"))) (Jp:W.findIn K (.ref zaa) "__class__"=some (some (.builtin "object.__class__"))) (Ja:W.mroIn K zaa (.type "object")=some true) (KI:W.findIn K (.ref zaa) "name"=some none) (JK:W.findIn K (.ref zaa) "cost"=some none) (Jj:W.findIn K (.ref zaa) "part_names"=some none) (IV:W.findIn K (.ref zaa) "one"=some none) (IF:W.findIn K (.ref zaa) "other"=some none) (tM:W.makesIn K zaa=true) (tN:W.findIn K (.ref zaa) "__init__"=some (some (.ref zja))) (iq:MK K "__init__" "BesideRule.__init__" dS zja) (tI:W.keepIn K (.ref zaa)=true) (Ku:W.kitOne K (.ref zaa) (.ref yaf)=some true) (Ij:W.kitOne K (.ref zaa) (.ref zaa)=some true) (wS:W.nsIn K mainGlobals "AboveRule"=some (some (.ref zba))) (JC:W.plainGet K zba Str.empty=true) (Jn:W.hasDictIn K zba=true) (J':W.plainOver K zba=true) (Kf:W.findIn K (.ref zba) "__setattr__"=some (some (.builtin "object.__setattr__"))) (IU:W.findIn K (.ref zba) "__class__"=some (some (.builtin "object.__class__"))) (KG:W.mroIn K zba (.type "object")=some true) (Jv:W.findIn K (.ref zba) "name"=some none) (JI:W.findIn K (.ref zba) "cost"=some none) (JL:W.findIn K (.ref zba) "part_names"=some none) (Km:W.findIn K (.ref zba) "one"=some none) (J2:W.findIn K (.ref zba) "other"=some none) (u_:W.makesIn K zba=true) (u5:W.findIn K (.ref zba) "__init__"=some (some (.ref zla))) (iO:MK K "__init__" "AboveRule.__init__" e_ zla) (vd:W.keepIn K (.ref zba)=true) (IJ:W.kitOne K (.ref zba) (.ref yaf)=some true) (Im:W.kitOne K (.ref zba) (.ref zba)=some true) (zN:W.nsIn K mainGlobals "TurnRule"=some (some (.ref zca))) (Jw:W.plainGet K zca Str.empty=true) (Kv:W.hasDictIn K zca=true) (IY:W.plainOver K zca=true) (Kd:W.findIn K (.ref zca) "__setattr__"=some (some (.builtin "object.__setattr__"))) (JG:W.findIn K (.ref zca) "__class__"=some (some (.builtin "object.__class__"))) (JX:W.mroIn K zca (.type "object")=some true) (IB:W.findIn K (.ref zca) "name"=some none) (Kb:W.findIn K (.ref zca) "cost"=some none) (KD:W.findIn K (.ref zca) "part_names"=some none) (JB:W.findIn K (.ref zca) "part"=some none) (JJ:W.findIn K (.ref zca) "turning"=some none) (xO:W.makesIn K zca=true) (wG:W.findIn K (.ref zca) "__init__"=some (some (.ref zoa))) (jl:MK K "__init__" "TurnRule.__init__" fL zoa) (xm:W.keepIn K (.ref zca)=true) (KQ:W.kitOne K (.ref zca) (.ref yaf)=some true) (HY:W.kitOne K (.ref zca) (.ref zca)=some true) (vJ:W.nsIn K mainGlobals "MOST_SIGNS"=some (some (.int 4 ybJ))) (uS:W.nsIn K mainGlobals "MOST_RULES"=some (some (.int 24 ybv))) (vZ:W.nsIn K mainGlobals "MOST_NAMES"=some (some (.int 8 ybC))) (At:W.nsIn K mainGlobals "TURNINGS"=some (some (.int 8 ybt))) (Iv:W.kitOne K (.ref zda) (.ref zaa)=some false) (JF:W.kitOne K (.ref zda) (.ref zba)=some false) (Iy:W.kitOne K (.ref zda) (.ref zca)=some false) (Ke:W.kitOne K (.ref zaa) (.ref zda)=some false) (IS:W.kitOne K (.ref zaa) (.ref zba)=some false) (KR:W.kitOne K (.ref zaa) (.ref zca)=some false) (IC:W.kitOne K (.ref zba) (.ref zda)=some false) (IX:W.kitOne K (.ref zba) (.ref zaa)=some false) (IW:W.kitOne K (.ref zba) (.ref zca)=some false) (Ka:W.kitOne K (.ref zca) (.ref zda)=some false) (JA:W.kitOne K (.ref zca) (.ref zaa)=some false) (Kk:W.kitOne K (.ref zca) (.ref zba)=some false) (lg:W.findIn K (.ref zda) "parts"=some (some (.ref zga))) (si:MK K "parts" "Rule.parts" eQ zga) (mP:W.findIn K (.ref zda) "ways"=some (some (.ref zya))) (mI:MK K "ways" "CellRule.ways" fR zya) (j6:W.findIn K (.ref zaa) "parts"=some (some (.ref zga))) (kl:W.findIn K (.ref zaa) "ways"=some (some (.ref zsa))) (kq:MK K "ways" "BesideRule.ways" dZ zsa) (kD:W.findIn K (.ref zba) "parts"=some (some (.ref zga))) (kW:W.findIn K (.ref zba) "ways"=some (some (.ref zua))) (lm:MK K "ways" "AboveRule.ways" eX zua) (lC:W.findIn K (.ref zca) "parts"=some (some (.ref zga))) (mY:W.findIn K (.ref zca) "ways"=some (some (.ref zza))) (mG:MK K "ways" "TurnRule.ways" fD zza) (Ck:W.nsIn K mainGlobals "Grammar"=some (some (.ref zea))) (Ks:W.plainGet K zea Str.empty=true) (J9:W.hasDictIn K zea=true) (KN:W.plainOver K zea=true) (JU:W.findIn K (.ref zea) "__setattr__"=some (some (.builtin "object.__setattr__"))) (Kt:W.findIn K (.ref zea) "__class__"=some (some (.builtin "object.__class__"))) (Kx:W.mroIn K zea (.type "object")=some true) (Ko:W.findIn K (.ref zea) "signs"=some none) (J4:W.findIn K (.ref zea) "start"=some none) (KP:W.findIn K (.ref zea) "kept"=some none) (IA:W.findIn K (.ref zea) "numbers"=some none) (yR:W.makesIn K zea=true) (yW:W.findIn K (.ref zea) "__init__"=some (some (.ref zpa))) (jU:MK K "__init__" "Grammar.__init__" fP zpa) (yS:W.keepIn K (.ref zea)=true) (ph:W.findIn K (.ref zea) "rule"=some (some (.ref zKa))) (nE:MK K "rule" "Grammar.rule" fM zKa) (mW:W.findIn K (.ref zea) "rules"=some (some (.ref zAa))) (mX:MK K "rules" "Grammar.rules" eZ zAa) (mT:W.findIn K (.ref zea) "names"=some (some (.ref zBa))) (mS:MK K "names" "Grammar.names" eR zBa) (iD:W.findIn K (.ref zea) "numbers_of"=some (some (.ref zma))) (iN:MK K "numbers_of" "Grammar.numbers_of" cQ zma) (GD:W.nsIn K mainGlobals "Cuts"=some (some (.ref yaa))) (FM:W.plainGet K yaa Str.empty=true) (FE:W.hasDictIn K yaa=true) (Fp:W.plainOver K yaa=true) (EW:W.findIn K (.ref yaa) "__setattr__"=some (some (.builtin "object.__setattr__"))) (Fu:W.findIn K (.ref yaa) "__class__"=some (some (.builtin "object.__class__"))) (E7:W.mroIn K yaa (.type "object")=some true) (nA:W.findIn K (.ref yaa) "picture"=some none) (vG:W.findIn K (.ref yaa) "text"=some none) (jg:W.findIn K (.ref yaa) "beside_texts"=some none) (jL:W.findIn K (.ref yaa) "above_texts"=some none) (FO:W.makesIn K yaa=true) (Fl:W.findIn K (.ref yaa) "__init__"=some (some (.ref ya0))) (mQ:MK K "__init__" "Cuts.__init__" fK ya0) (Fr:W.keepIn K (.ref yaa)=true) (jK:W.findIn K (.ref yaa) "turned_text"=some (some (.ref yaZ))) (jH:MK K "turned_text" "Cuts.turned_text" dW yaZ) (uQ:W.nsIn K mainGlobals "QuiltError"=some (some (.ref yad))) (sO:K.lookup yad=some ⟨.type "type",ybq,.cls ybk,ybP⟩) (kP:W.excIn K yad [.type "ValueError",.type "Exception",.type "BaseException",.type "object"] "ValueError.__new__"=true) (pV:W.findIn K (.ref yad) "__getattribute__"=some (some (.builtin "BaseException.__getattribute__"))) (pN:W.findIn K (.ref yad) "__getattr__"=some none) (qc:W.mroIn K yad (.type "BaseException")=some true) (p_:W.mroIn K yad (.type "object")=some true) (pM:W.findIn K (.ref yad) "__class__"=some (some (.builtin "object.__class__"))) (GB:W.nsIn K mainGlobals "MOST"=some (some (.int 6 ybF))) (pj:W.nsIn K mainGlobals "MOST_PICTURES"=some (some (.int 300 ybB))) (Ct:W.nsIn K mainGlobals "TooMany"=some (some (.ref yae))) (rf:K.lookup yae=some ⟨.type "type",ybh,.cls ybc,ybG⟩) (qR:W.excIn K yae [.type "ValueError",.type "Exception",.type "BaseException",.type "object"] "ValueError.__new__"=true) (wX:W.findIn K (.ref yae) "__getattribute__"=some (some (.builtin "BaseException.__getattribute__"))) (wy:W.findIn K (.ref yae) "__getattr__"=some none) (v9:W.mroIn K yae (.type "BaseException")=some true) (wk:W.mroIn K yae (.type "object")=some true) (wC:W.findIn K (.ref yae) "__class__"=some (some (.builtin "object.__class__"))) (jm:ybf.mro.contains (.ref yad)=true) (iR:ybc.mro.contains (.ref yad)=true) (JQ:W.kitOne K (.ref yac) (.ref yac)=some true) (Jz:W.kitOne K (.ref yac) (.ref yae)=some false) (Jt:W.kitOne K (.ref yae) (.ref yac)=some false) (Jq:W.kitOne K (.ref yae) (.ref yae)=some true)
  (z0:W.nsIn K mainGlobals "len"=some none) (z1:W.nsIn K mainGlobals "range"=some none) (z2:W.nsIn K mainGlobals "list"=some none) (z3:W.nsIn K mainGlobals "tuple"=some none) (z4:W.nsIn K mainGlobals "isinstance"=some none) (z5:W.nsIn K mainGlobals "int"=some none) (z6:W.nsIn K mainGlobals "bool"=some none) (z7:W.nsIn K mainGlobals "str"=some none) (z8:W.nsIn K mainGlobals "reversed"=some none) (z9:W.nsIn K mainGlobals "all"=some none) (Iz:W.nsIn K mainGlobals "enumerate"=some none) (IG:W.nsIn K mainGlobals "zip"=some none) (Kq:W.nsIn K mainGlobals "sorted"=some none) (Jg:W.nsIn K mainGlobals "set"=some none) (J8:W.nsIn K mainGlobals "dict"=some none) (Je:W.nsIn K mainGlobals "min"=some none) (JW:W.nsIn K mainGlobals "max"=some none) (KC:W.nsIn K mainGlobals "sum"=some none) (KM:W.nsIn K mainGlobals "ValueError"=some none) :
  ∃fd:FuncData,(∀(s:LZ) (v:Value),BindsTo s fd ⟨[v],[]⟩ [("_law_script",v)])/\∀base:Heap,K.In base->base.Ns mainGlobals mg->aS l.prog w K mg base bf 13 fa fd ["_law_script"] (rX K):=by
 obtain⟨an,oc,od,osl,kV,doc,pm,ann,cdv,ct,hl,hc,hk⟩:=Kn;have e:=J_.symm.trans (W.mg_of X G an);cases e;have FL:=cM hl hc hk;have nb:NB mg:=⟨W.mg_none_of X G z0,W.mg_none_of X G z1,W.mg_none_of X G z2,W.mg_none_of X G z3,W.mg_none_of X G z4,W.mg_none_of X G z5,W.mg_none_of X G z6,W.mg_none_of X G z7,W.mg_none_of X G z8,W.mg_none_of X G z9,W.mg_none_of X G Iz,W.mg_none_of X G IG,W.mg_none_of X G Kq,W.mg_none_of X G Jg,W.mg_none_of X G J8,W.mg_none_of X G Je,W.mg_none_of X G JW,W.mg_none_of X G KC,W.mg_none_of X G KM⟩;refine⟨W.fnOf "law" "law" (cR rM) (cB rM) (ak rM) .none kV doc pm ann cdv ct,λs v=>.of_eq rfl,λbase _ _=>?_⟩;have yai:=W.mg_of X G C8;have ybo:sZ K yac [.type "ValueError",.type "Exception",.type "BaseException",.type "object"] "ValueError.__new__":=⟨vm⟩;have ya7:XR K yac:=⟨_,_,_,_,_,_,_,_,⟨vm⟩,PySem.F.excBase_ValueError,rfl,PySem.F.excBase_ValueError⟩;have ybE:W.XTy K yac:=⟨zM,Aq,Ae,Af,zm,DR,Dg,_,_,_,uF⟩;have yaC:=W.mg_of X G Ah;have yao:=W.mg_of X G DV;have yaW:=W.mg_of X G pP;have ybA:=W.mg_of X G Gc;obtain⟨_,_,_,_,_,_,_,_,_,mlRule___init__,mcRule___init__,zYa,mfRule___init__⟩:=mH;have zZa:=cM (st:=fS) mlRule___init__ mcRule___init__ zYa;have zqc:=zZa.binds (ps:=["self","name","cost","part_names"]) λ_ _ _ _ _ _=>bd4 λ_ _ _ _=>rfl
 have ybN:Cd K yaf "__init__" zxa:=⟨Fs,FD,mO,zYa⟩;have zSa:=W.mg_of X G Ay;have zLa:jk K zda:=⟨⟨IH,Jd,JD,IN⟩,Jy,DR,Dg,Jx⟩;obtain⟨_,_,_,_,_,_,_,_,_,mlCellRule___init__,mcCellRule___init__,zyb,mfCellRule___init__⟩:=jp;have zHa:=cM (st:=fG) mlCellRule___init__ mcCellRule___init__ zyb;have zzb:=zHa.binds (ps:=["self","name","cost","sign"]) λ_ _ _ _ _ _=>bd4 λ_ _ _ _=>rfl
 have zQc:Mk K zda zna:=⟨xp,xB,mfCellRule___init__,xj⟩;have zHc:=W.mg_of X G u0;have zta:jk K zaa:=⟨⟨KJ,KH,JV,JZ⟩,Jp,DR,Dg,Ja⟩;obtain⟨_,_,_,_,_,_,_,_,_,mlBesideRule___init__,mcBesideRule___init__,zob,mfBesideRule___init__⟩:=iq;have zva:=cM (st:=dS) mlBesideRule___init__ mcBesideRule___init__ zob;have zpb:=zva.binds (ps:=["self","name","cost","one","other"]) λ_ _ _ _ _ _=>bd5 λ_ _ _ _ _=>rfl
 have zAc:Mk K zaa zja:=⟨tM,tN,mfBesideRule___init__,tI⟩;have zRc:=W.mg_of X G wS;have zCa:jk K zba:=⟨⟨JC,Jn,J',Kf⟩,IU,DR,Dg,KG⟩;obtain⟨_,_,_,_,_,_,_,_,_,mlAboveRule___init__,mcAboveRule___init__,zvb,mfAboveRule___init__⟩:=iO;have zDa:=cM (st:=e_) mlAboveRule___init__ mcAboveRule___init__ zvb;have zwb:=zDa.binds (ps:=["self","name","cost","one","other"]) λ_ _ _ _ _ _=>bd5 λ_ _ _ _ _=>rfl
 have zIc:Mk K zba zla:=⟨u_,u5,mfAboveRule___init__,vd⟩;have zwa:=W.mg_of X G zN;have zMa:jk K zca:=⟨⟨Jw,Kv,IY,Kd⟩,JG,DR,Dg,JX⟩;obtain⟨_,_,_,_,_,_,_,_,_,mlTurnRule___init__,mcTurnRule___init__,zAb,mfTurnRule___init__⟩:=jl;have zIa:=cM (st:=fL) mlTurnRule___init__ mcTurnRule___init__ zAb;have zBb:=zIa.binds (ps:=["self","name","cost","part","turning"]) λ_ _ _ _ _ _=>bd5 λ_ _ _ _ _=>rfl
 have zSc:Mk K zca zoa:=⟨xO,wG,mfTurnRule___init__,xm⟩
 let R:RC:=⟨yaf,zda,zaa,zba,zca⟩
 have rk:lW K R:=⟨zLa,zta,zCa,zMa,⟨JP,Jl,Jr,Jo⟩,⟨KI,JK,Jj,IV,IF⟩,⟨Jv,JI,JL,Km,J2⟩,⟨IB,Kb,KD,JB,JJ⟩,KK,Ku,IJ,KQ,H_,Ij,Im,HY⟩;have yaD:=W.mg_of X G vJ;have yaK:=W.mg_of X G uS;have yaU:=W.mg_of X G vZ;have yak:=W.mg_of X G At;have rk4:BW K R:=⟨λi j hi hj=>by rcases gS hi with rfl | rfl | rfl | rfl<;>rcases gS hj with rfl | rfl | rfl | rfl;exact H_;exact Iv;exact JF;exact Iy;exact Ke;exact Ij;exact IS;exact KR;exact IC;exact IX;exact Im;exact IW;exact Ka;exact JA;exact Kk;exact HY⟩;obtain⟨_,_,_,_,_,_,_,_,_,mlRule_parts,mcRule_parts,zqa,mfRule_parts⟩:=si;have zra:=cM (st:=eQ) mlRule_parts mcRule_parts zqa;have zEa:=zra.binds (ps:=["self"]) λ_ _ _ _ _ _=>bd1 λ_=>rfl
 have zSb:ip K zda "parts" zga:=⟨lg,mfRule_parts,zqa⟩;obtain⟨_,_,_,_,_,_,_,_,_,mlCellRule_ways,mcCellRule_ways,zab,mfCellRule_ways⟩:=mI;have zbb:=cM (st:=fR) mlCellRule_ways mcCellRule_ways zab;have zrc:=zbb.binds (ps:=["self","cuts"]) λ_ _ _ _ _ _=>bd2 λ_ _=>rfl
 have zbc:ip K zda "ways" zya:=⟨mP,mfCellRule_ways,zab⟩;have zCb:ip K zaa "parts" zga:=⟨j6,mfRule_parts,zqa⟩;obtain⟨_,_,_,_,_,_,_,_,_,mlBesideRule_ways,mcBesideRule_ways,zQa,mfBesideRule_ways⟩:=kq;have zRa:=cM (st:=dZ) mlBesideRule_ways mcBesideRule_ways zQa;have zTb:=zRa.binds (ps:=["self","cuts"]) λ_ _ _ _ _ _=>bd2 λ_ _=>rfl
 have zKb:ip K zaa "ways" zsa:=⟨kl,mfBesideRule_ways,zQa⟩;have zLb:ip K zba "parts" zga:=⟨kD,mfRule_parts,zqa⟩;obtain⟨_,_,_,_,_,_,_,_,_,mlAboveRule_ways,mcAboveRule_ways,zUa,mfAboveRule_ways⟩:=lm;have zVa:=cM (st:=eX) mlAboveRule_ways mcAboveRule_ways zUa;have zcc:=zVa.binds (ps:=["self","cuts"]) λ_ _ _ _ _ _=>bd2 λ_ _=>rfl
 have zUb:ip K zba "ways" zua:=⟨kW,mfAboveRule_ways,zUa⟩;have zVb:ip K zca "parts" zga:=⟨lC,mfRule_parts,zqa⟩;obtain⟨_,_,_,_,_,_,_,_,_,mlTurnRule_ways,mcTurnRule_ways,zcb,mfTurnRule_ways⟩:=mG;have zdb:=cM (st:=fD) mlTurnRule_ways mcTurnRule_ways zcb;have zsc:=zdb.binds (ps:=["self","cuts"]) λ_ _ _ _ _ _=>bd2 λ_ _=>rfl
 have zdc:ip K zca "ways" zza:=⟨mY,mfTurnRule_ways,zcb⟩;have zpd:=W.mg_of X G Ck;have zha:jk K zea:=⟨⟨Ks,J9,KN,JU⟩,Kt,DR,Dg,Kx⟩;obtain⟨_,_,_,_,_,_,_,_,_,mlGrammar___init__,mcGrammar___init__,zMb,mfGrammar___init__⟩:=jU;have zNa:=cM (st:=fP) mlGrammar___init__ mcGrammar___init__ zMb;have zNb:=zNa.binds (ps:=["self","signs","start","rules"]) λ_ _ _ _ _ _=>bd4 λ_ _ _ _=>rfl
 have zgd:Mk K zea zpa:=⟨yR,yW,mfGrammar___init__,yS⟩;have gk:Ik K zea:=⟨zha,Ko,J4,KP,IA⟩;obtain⟨_,_,_,_,_,_,_,_,_,mlGrammar_rule,mcGrammar_rule,zqb,mfGrammar_rule⟩:=nE;have zrb:=cM (st:=fM) mlGrammar_rule mcGrammar_rule zqb;have zxc:=zrb.binds (ps:=["self","k"]) λ_ _ _ _ _ _=>bd2 λ_ _=>rfl
 have ztc:ip K zea "rule" zKa:=⟨ph,mfGrammar_rule,zqb⟩;obtain⟨_,_,_,_,_,_,_,_,_,mlGrammar_rules,mcGrammar_rules,zeb,mfGrammar_rules⟩:=mX;have zfb:=cM (st:=eZ) mlGrammar_rules mcGrammar_rules zeb;have zuc:=zfb.binds (ps:=["self"]) λ_ _ _ _ _ _=>bd1 λ_=>rfl
 have zec:ip K zea "rules" zAa:=⟨mW,mfGrammar_rules,zeb⟩;obtain⟨_,_,_,_,_,_,_,_,_,mlGrammar_names,mcGrammar_names,zgb,mfGrammar_names⟩:=mS;have zhb:=cM (st:=eR) mlGrammar_names mcGrammar_names zgb;have zvc:=zhb.binds (ps:=["self"]) λ_ _ _ _ _ _=>bd1 λ_=>rfl
 have zfc:ip K zea "names" zBa:=⟨mT,mfGrammar_names,zgb⟩;obtain⟨_,_,_,_,_,_,_,_,_,mlGrammar_numbers_of,mcGrammar_numbers_of,zFa,mfGrammar_numbers_of⟩:=iN;have zGa:=cM (st:=cQ) mlGrammar_numbers_of mcGrammar_numbers_of zFa;have zxb:=zGa.binds (ps:=["self","name"]) λ_ _ _ _ _ _=>bd2 λ_ _=>rfl
 have zsb:ip K zea "numbers_of" zma:=⟨iD,mfGrammar_numbers_of,zFa⟩;have ybi:=W.mg_of X G GD;have yah:jk K yaa:=⟨⟨FM,FE,Fp,EW⟩,Fu,DR,Dg,E7⟩;obtain⟨_,_,_,_,_,_,_,_,_,mlCuts___init__,mcCuts___init__,mkCuts___init__,mfCuts___init__⟩:=mQ;have ybe:=cM (st:=fK) mlCuts___init__ mcCuts___init__ mkCuts___init__;have ybM:=ybe.binds (ps:=["self","picture"]) λ_ _ _ _ _ _=>bd2 λ_ _=>rfl
 have ybL:Mk K yaa ya0:=⟨FO,Fl,mfCuts___init__,Fr⟩;obtain⟨_,_,_,_,_,_,_,_,_,mlCuts_turned_text,mcCuts_turned_text,mkCuts_turned_text,mfCuts_turned_text⟩:=jH;have ybd:=cM (st:=dW) mlCuts_turned_text mcCuts_turned_text mkCuts_turned_text;have ybr:=ybd.binds (ps:=["self","t"]) λ_ _ _ _ _ _=>bd2 λ_ _=>rfl
 have ybp:ip K yaa "turned_text" yaZ:=⟨jK,mfCuts_turned_text,mkCuts_turned_text⟩;have nc:EK K yaa:=⟨nA,vG,jg,jL⟩;have yax:=W.mg_of X G uQ;have ybH:sZ K yad [.type "ValueError",.type "Exception",.type "BaseException",.type "object"] "ValueError.__new__":=⟨kP⟩;have xr_QuiltError:XR K yad:=⟨_,_,_,_,_,_,_,_,⟨kP⟩,PySem.F.excBase_ValueError,rfl,PySem.F.excBase_ValueError⟩;have xt_QuiltError:W.XTy K yad:=⟨pV,pN,qc,p_,pM,DR,Dg,_,_,_,sO⟩;have yav:=W.mg_of X G GB;have yaF:=W.mg_of X G pj;have yaq:=W.mg_of X G Ct;have ybO:sZ K yae [.type "ValueError",.type "Exception",.type "BaseException",.type "object"] "ValueError.__new__":=⟨qR⟩;have yaQ:XR K yae:=⟨_,_,_,_,_,_,_,_,⟨qR⟩,PySem.F.excBase_ValueError,rfl,PySem.F.excBase_ValueError⟩;have ybs:W.XTy K yae:=⟨wX,wy,v9,wk,wC,DR,Dg,_,_,_,rf⟩;have ybw:vW K yac yad:=⟨_,_,_,uF,jm⟩;have ybu:vW K yae yad:=⟨_,_,_,rf,iR⟩;have yag:=a1∣wv F nb;have yaj:=a2∣w_ F nb yaW yaC yag;have zfa:y_ l.prog w K mg base bf 3 "Rule" "__init__" ["self","name","cost","part_names"] (df K):=⟨_,_,_,sI zZa nb yaj,ybA,ybN,zqc⟩;have zib:k9 l.prog w K mg base bf 4 "CellRule" zda ["self","name","cost","sign"] (gK K):=⟨_,_,tE zHa nb yao yag zfa,zSa,zQc,zzb⟩;have zOa:k9 l.prog w K mg base bf 4 "BesideRule" zaa ["self","name","cost","one","other"] (di K):=⟨_,_,pA zva nb zfa,zHc,zAc,zpb⟩;have zTa:k9 l.prog w K mg base bf 4 "AboveRule" zba ["self","name","cost","one","other"] (di K):=⟨_,_,p9 zDa nb zfa,zRc,zIc,zwb⟩;have zjb:k9 l.prog w K mg base bf 4 "TurnRule" zca ["self","name","cost","part","turning"] (gZ K):=⟨_,_,tS zIa nb zfa,zwa,zSc,zBb⟩;have yaz:xU l.prog w K mg base bf 1 "parts" (oJ K R):=Eo ⟨_,_,_,dU zra nb,zLa.cl,zSb,zEa⟩ ⟨_,_,_,dU zra nb,zta.cl,zCb,zEa⟩ ⟨_,_,_,dU zra nb,zCa.cl,zLb,zEa⟩ ⟨_,_,_,dU zra nb,zMa.cl,zVb,zEa⟩;have yaA:=a3∣um F nb yaD yao yag;have yaX:=a4∣lV F nb rk rk4 yaK zSa yaA yaj;have ya1:=a5∣jE F nb rk yaz;have ztb:k9 l.prog w K mg base bf 4 "Grammar" zea ["self","signs","start","rules"] (gW K R):=⟨_,_,rT zNa nb yaU yaX ya1,zpd,zgd,zNb⟩;have yal:gI l.prog w K mg base bf 1 zea "rule" ["self","k"] (eN R zea):=⟨_,_,sd zrb nb zha.cl gk.na,zha.cl,ztc,zxc⟩;have yaw:gI l.prog w K mg base bf 1 zea "rules" ["self"] (gi R zea):=⟨_,_,p8 zfb nb zha.cl gk.na,zha.cl,zec,zuc⟩;have ya3:gI l.prog w K mg base bf 1 zea "names" ["self"] (f_ R zea):=⟨_,_,pY zhb nb zha.cl gk.na,zha.cl,zfc,zvc⟩;have yan:gI l.prog w K mg base (j8 l.prog w) 1 zea "numbers_of" ["self","name"] (cL R zea yac):=⟨_,_,jF zGa nb zha.cl gk.na yai ya7,zha.cl,zsb,zxb⟩;have yaG:=a6∣zL F nb;have yaJ:=a7∣yV F nb;have ya8:=a8∣wd F nb yaJ;have zka:=a9∣zH F nb yaG ya8;have ya2:=IK∣BH F;have ya6:=J0∣Ek F;have yab:=Jm∣Bw F;have yaO:=II∣qj F nb;have yaI:=Ji∣xF F nb;have ya5:=Kh∣jN F nb;have yaT:=J1∣wj F nb yak yaO yaI zka yab ya5;have yba:=J3∣Ab F nb;have yat:=JN∣mF F nb yba yab;have yaL:k9 l.prog w K mg base bf 3 "Cuts" yaa ["self","picture"] (hX K):=⟨_,_,ud ybe nb yab yat,ybi,ybL,ybM⟩;have zJa:gI l.prog w K mg base bf 4 yaa "turned_text" ["self","t"] (fA yaa):=⟨_,_,nR ybd nb yah.cl nc zka yab,yah.cl,ybp,ybr⟩;have yaH:xU l.prog w K mg base bf 5 "ways" (nU R yaa):=Eo ⟨_,_,_,(tH zbb yah.cl nc zLa.cl rk.a0.2.2.2).mono nofun,zLa.cl,zbc,zrc⟩ ⟨_,_,_,(oI zRa yah.cl nc zta.cl ⟨rk.a1.2.2.2.1,rk.a1.2.2.2.2⟩).mono nofun,zta.cl,zKb,zTb⟩ ⟨_,_,_,(pR zVa yah.cl nc zCa.cl ⟨rk.a2.2.2.2.1,rk.a2.2.2.2.2⟩).mono nofun,zCa.cl,zUb,zcc⟩ ⟨_,_,_,tJ zdb yah zMa.cl ⟨rk.a3.2.2.2.1,rk.a3.2.2.2.2⟩ zJa ya6,zMa.cl,zdc,zsc⟩;have yaE:=Jk∣xa F nb rk;have yaY:=Kj∣zA F nb yal yaH yaE;have yar:=KA∣CF F nb;have yaV:=Iw∣mJ F nb rk yah.cl nc yal yaY yar
 have yay:=Kg∣pK F nb rk ya2 yar;have yaR:=IT∣kE F nb rk rk4 yah nc yak zwa yaw ya3 yaL zka yaV yay;have yap:=IP∣ql F nb yaT yab yaR;have ya9:=IZ∣vw F nb yap;have yaS:=I0∣qb F nb zha.cl gk.na yan;have yaP:=I_.cal (P:=l.prog) (w:=w) (base:=base) X G (λ_ _ F=>pX F nb yaS ya9 yab) λ_ _ _ _ _ _ _ us hl=>match us,hl with | [_,_,_],_=>⟨_,rfl,rfl⟩
 have yaB:=Jc∣uD F nb;have yau:=IM∣zV F nb;have ya4:=JH∣mV F nb yav yau;have yam:=JS∣oj F nb zha.cl gk.na yaF yaq yaQ yan yaB ya4 yap yab;have zia:=JM∣Ag F nb;have zDb:=Jh∣xM F nb zia;have zXa:=JE∣xC F nb;have zEb:=KF∣wo F nb;have zFb:=Kz∣wE F nb;have zXb:=IL∣zw F nb rk zib zOa zTa zjb;have zkb:=KL∣sU F nb gk zXb ztb;have zGb:=Kl∣wD F nb;have zHb:=JR∣wT F nb;have zub:=Jb∣yO F nb yai yax yaq ybH.out rfl ybo.out ybO.out ybw ybu ybE ybs JQ Jz Jt Jq yam;have zPa:=Ix.cal l.prog w base X G (λ_ F m k b=>xR F nb zXa yam yaP) (λ_ _ _ _ _ _=>bd5 λ_ _ _ _ _=>rfl);exact E3 FL nb zia zDb zEb zFb zGb zkb zHb zub zPa
theorem walk{l:W.OpenLaw}{loose:L9}{XP:(Str->Option Value)->Heap->Prop}{YP:World->Heap->Prop}{d:DefRec}{K:Params->W.Frag}(hn:l.most=some 63)(hdf:d.params.defaults=[])
  (hY:∀(w:Mb) (h:Heap),YP w h->(K w.params).In h)
  (F:∀(w:Mb) (mg:L6) (fa:Addr) (h:Heap),(K w.params).In h->h.Ns mainGlobals mg->mg d.name=some (.ref fa) ->
   ∃fd:FuncData,(∀(s:LZ) (u:Value),BindsTo s fd ⟨[u],[]⟩ [("_law_script",u)])/\∀base:Heap,(K w.params).In base->base.Ns mainGlobals mg->aS l.prog w (K w.params) mg base bf 13 fa fd ["_law_script"] (rX (K w.params))) :
  W.WalkO q loose XP YP l.row.toRowW d [] (λf vs=>PySem.call f vs):=
 L2.walk_of (n:=63) (k:=13) (x:="_law_script") (CX:=λ_=>bf) (sp:=λw=>rX (K w.params)) hn nofun hdf ⟨rfl,nofun,nofun⟩ hY F (λ_ _ a ns hl _ hS=>⟨a,ns,rfl,hS,λ_=>rfl⟩) λ_ _ _ _ _ z=>z
end Q39
open PySem PySem.W PyProof.Rows
local macro_rules | `(tactic| walk_at "kk")=>`(tactic| first | (refine' Q39.fk_mk ?p ?q ?r ?s;(case p=>k_is);(case q=>k_is);(case r=>k_is);(case s=>k_is)) | (refine' Q39.fkd_mk ?p ?q ?r ?s ?t ?u;(case p=>k_is);(case q=>k_is);(case r=>k_is);(case s=>k_is);(case t=>k_is);(case u=>rfl)) | (refine' Q39.mk_mk ?p ?q ?r ?s;(case p=>k_is);(case q=>k_is);(case r=>k_is);(case s=>k_is)) | k_is | kernel_rfl | rfl | decide +kernel)
set_option maxRecDepth 100000 in
set_option maxHeartbeats 0 in
theorem PySem.Challenge.cw_quiltlaw_k39_sizes_within_bounds_holds : PySem.Challenge.rw_quiltlaw_k39_sizes_within_bounds.Holds := by
 w_on;o_law;k_head;(case hw=>w_witness2)
 k_fill
 refine Q39.walk (l:=PySem.Challenge.rw_quiltlaw_k39_sizes_within_bounds) rfl rfl (λw h Y=>PySem.W.kIn_of Y) ?F
 case F=>
  intro w mg fa h KX G hmg
  apply Q39.all_mk KX G hmg
  all_goals (try walk_at "kk")
