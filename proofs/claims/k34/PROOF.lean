import PyProof.Rows.All
import Wide.All
import OpenK.AllK
import Wide.FinOn
import Lean
import PyProof.EqAt
import PyProof.EqKinds
import PyProof.TupleCall
import PyProof.CollectIter
import PyProof.JoinWalk
import PyProof.StrOps
import PyProof.ListOps
import PyProof.StrLawsJoin
import KE.KRevIter
import PyProof.StrLawsFirst
import PyProof.Rows.StrNews2
import PyProof.StrLawsTight
import PyProof.StrLawsChain
import KE.KIntText
import KE.IntTextLaws
import PyProof.ListStr
import KE.KDictLaws
import KE.KDictList
import PyProof.Rows.SetFrom
import PyProof.FitsReplace
import KE.KEqDict
import PyProof.Rows.SumAny
import PyProof.Rows.CallKwBuiltin
import PyProof.EnumMake
import PyProof.TupleIter
import PyProof.Rows.TupIter
import PyProof.FactsAll.range_2
import PyProof.AutoSeq1
import PyProof.Rows.Range3
import PyProof.ZipIter
import PyProof.TupleKey
import PyProof.FactsAll.tuple
import PySem.Challenge.RW_quiltlaw_k34_rows_of_trees
set_option bootstrap.genMatcherCode false
set_option tactic.hygienic false
def nop(x:Lean.Syntax):Lean.Syntax:=x.rewriteBottomUp λ|.atom _ v=>.atom .none v|.ident _ r n p=>.ident .none r n p|.node _ k a=>.node .none k a|y=>y
local macro_rules|`($m:declModifiers theorem $i:declId $s:declSig $v:declVal)=>do
 if i.raw.getPos?.isNone then Lean.Macro.throwUnsupported
 return nop (<-`($m:declModifiers theorem $i $s:declSig $v:declVal))
local macro_rules|`($m:declModifiers def $i:declId $s:optDeclSig $v:declVal)=>do
 if m.raw != (<-`(def x:=0)).raw[0]then Lean.Macro.throwUnsupported
 return nop (<-`(noncomputable def $i $s $v:declVal))
local macro_rules|`($m:declModifiers abbrev $i:declId $s:optDeclSig $v:declVal)=>do
 if m.raw != (<-`(def x:=0)).raw[0]then Lean.Macro.throwUnsupported
 return nop (<-`(noncomputable abbrev $i $s $v:declVal))
local macro_rules|`(command|set_option $o:ident $s:str)=>do
 if o.getId != `tw then Lean.Macro.throwUnsupported
 let n:=s.getString.toList.toArray.map λc=>if c.toNat<64 then c.toNat-35 else if c.toNat<92 then c.toNat-36 else c.toNat-37
 let a<-(List.range (n.size/10)).toArray.mapM λi=>let x:=(List.range 10).foldl (λa j=>a*90+n[10*i+j]!) 0;let y:=Lean.mkIdent (.mkSimple s!"tw{x}");`(command|theorem $y:ident:True:=⟨⟩)
 return Lean.mkNullNode a
namespace PySem.W.Fast
set_option tw "$x49*Yjb+H2-R5Q505a]#jUC{A-9PuG1WtQ8Use3)(x~uj~FQ19>k)WHKKV}J6h;5}VaGw8/DwC:[{Ek1hEN|QR*_D?M#)FE*bx{9R,w1H.VLu7ST66O0`iXP*J)U5[>+q?y(4Ez[*]/F.[Yb_d;ZPR1#?=?.=]TDq4Q)?h0iq$uS1urQ%&x#rKC4oILe<PY}FN`WjKS1+W|)oqu[.;uPhr7g[U`FJ|X<f{.'Q<>j0K%Xlx|#mOV'wtCw^R*Usm,8,gv-/|1v0$GU&N|QeyP[6EG-xE8/)_07zR~e[VQR9DM?E}>,cP+ZjSDqec<1]}U8qLd:}+>xK3+J<_+vPZQCp;}+&7&pKM%`R?M4'wj9Iqf|J/a6GSD_(0rai#EC'DOgh%;Lv(Wh`|;i43b1QKNL75$4x%iQ[AlT}XMJ4.)``s(UWL2Y<d;I+UdNu6P|%n%'n3gdL=LP:Ku--D8kOd5uV3.{7cESliZ({h[)._`zX<,$*u+4ccZ7tk:7:4Q%gP5]cbP;kL_S[98fo=;YT8|N.]c=oYL?366<MU5bu+h,^:}2C;c;6Om8Wp#cRISs<Q1AI:T'4];lw^*X9%jNv1uyJA;14.S{S269VI(DP+-t;(m$qAs.JNkb,9x[.dXc:%GDO1;HxKGDtE0~f/L&o|0H[~cl}Li}h1cZ(onNLhz9vx_kTp[#2?[mAp*~u(n/JJ$]A<8ad.k>d*(Jk<$5Q<z)wd/1SD`-XrFNyZlM_]?;}~c^~8Q6d/A:i<$AtH;=bQ7Jd'i^I&/QPl8(J5yyAOc|r#peE]4OI&<JD:*=D2kv^(TiFI_5r>F:/6P{G?bWV=SPoN]o{1uL>pv]KM^Jq)M]b+:-Jc#ByuRF6x5_T'K[5vjb9'q7qZJ(S.R;XR+AvnG7(=aH%Fh[t8lJ7'+Tg]l^j[%7gM~|(=59e5SLbK~,>X}GID`uq:M5X+G*=;3CelZ#;s9%Bcp,B'?{6#+wc6s(=>+]'E9&{7Z<<}Xt$~BIZ'05r0E%y.a0Lb'.uceQD_Qbd)/bF$4,$|27uGl/+O[dR=_b>QeX4OkfLGt+hPsOzR3Ol21KHWm{s{$Qy7f9-EwIW>'T'{ZyyF$%wXQYTgFPz6f]&MA}1gnF~u%t4gv8CFJ8Ft[M|,K-PN6Go3biM(F7cJV}m'bM=F-d#<.|>Gn]hwN6.wQ3O6%0rbZ{~PI?f21VHW:Pt3;L`~Wef:tsLr>OeAp6_*)Ie0H7I:+/bFryU}f/x&eM%(FhlGR-v}n?UY2.rr0mq'|y$C3vEC:r~A:D,m5/IOPcE&en+[gGp6W0+d=<S$6;wEid[cg$C3%1MP7f6S/&#-0p|}2it1R='m4|%NqMa01g?MZI|M}J1/{rks9k%1/HDUap/]1*vgcT7%few+ujy;sP_A/O&]c3`TR'9QryWWSq[&/E?<2#CbK'N,(5F^^I;[]2pZ*&,pY6a)k|)1869|T$}>Y}vlYFZL)#yu5oL)_0_rHAf:zJ1,I'g/0C=]k<+StE4zW8#Q$&/r#[W~]#}{(O$)SCH?7N07#*i8?R~,XtejR<?Ak/3l]FM}g>XXYR%}y]kNChqg3EDw-%EK2RH=zA4L%iK`:)7D:R#LKN,P[2z6[f./=`t'O0>KH$b$0b,IdQSb6G>nn+?hdfUg`hr;G;-pQoHLK4A^3`[GN*EEqKt%*U`PO27MqlOr.J*3W)WX4;Yz$BCs7FHU-4b+cL{(5G)FG2=CXHpA#/[$~WI]-g/YI=1rMjWN]6^S2HO*B_5T2>'[D5YJ[E4IX,pz4~uhf=$tgq{MvyX.:C$PN`|Z].KNE7nPW9T29akIUL~Hq3~Q7`j_64%Ng*Tb|d_AkQow`|S$On=CKnQ*f[{Q{/$_Wny2>L7#e3#tuab&)H0Jav2oH-yL+wapO3gJy=IiM:kgSvFAA%&PC9]A{:e1ydd#2A-L^$aTo1BYB=#1Wg(?p_m-7t7-/e6PiP9HR;c(E~w63px,53fD'NPJu_PZ&XH;ogLG:)_3DQh%%maHTyD#MGIQZ/09]2[_hGd5Hu;M1*Y)#HuA9D/p1zPX9hg,2]qMvfkT<--~`jrj[B,7#B[x/+S8O.*Cp#<CPm$Jd^JQp,X;v<R?0::$Mw<FU3[b$/jD(D=#nzHy+$S0zq<o`6s90&_~=?A0c+MI}){LN7vyAH4j0Grb9,29</$UY{bWKCO&1^t(1cr/$M797I#bS+cwIwOXh,GN/ouIF6:4>(#k=I-s;3^Pf9=m+&uv|C8M&Ze'In.Q=;#f%Hn]YQ-oC,l{hcUN$Q0+CCYij*'-#KL%+R0+v1],8X2|+DG_>lJr(oNOPN-'$x:ukNEkR_=jS]{:]X8]njyf+22Rnl41fUP+2|D>=<2HcK1],;c44uBDm&>}3[UV=<E]d+z{5mVRF=ppK~.O+O.z6Q8$p,?5&^bH=f0F=IyC){bkR1J,OxxG9bX$;/GA)3tQ3kZ8A:3v&b8VNOji3k5hSTZE0]6FB`RCX8(B}[IBmHFCV|XDS{2ni;h$FemI{jm;Wug?Qugc)G<m)cAc<?1JHhP~2VM5V>D$v+>)d#R+99MPdL8c`*TTL>2)UL[Kg,7C,Y<zr2X?~hHHfZ.9EZK:t<CVG)NbG)j4{V*#a=/7hZZ[bOP4%o&&{`QJsxTr+?SetP[p6wnqOCM6~SI.=dP#h%b$F<NeTWA0Momz$X$whLA9yABy^m[P_mA0&T0VWBB{7U5IZhA6W>.)y]IMr(aR=pjG-28Q9/cuHKgV[33'PkVA1m`'^TYZ8wbdv6,%UUZ8p8Y=nSHAEo2K^+.6vo#h25&N.?5F#8#Un4_;k1W4KH25EUi|CyTS8=Oug%XKXy>2OS6s0;d`EOSE`s($eYvQP:=tSLUHt1u1`TX2P#'KH>.k9SGUsPYi7TuRq^gOD]u2iJ4CVD5,8'>WZ|9RMXJ5VJAm;?);$Y:wWe#Nk:AI*pQ/](9Z$9vOn|N7B*i?H^^H]E6)c/4'O`w5vHsj5b4H;/*uq|M3P?7GN9gtYM%om=3a`ZUM7ui<B%~9kQ$4kC:?R16EBM5N&7$9s&r0REYDOKW[u53FYAH,6*d];/r>8}~>w[kGz:~Q;Qeh{;&SPDB:MMk=}}06?xQuD:Wfm]i4P$_5}*$0s9{jgDFbfj9HEW>0&.VNYP8lW-D,DIP:}S2P&w3N1|s7Y3%Yl%U.0DUIPUa{8;2%0$JPgNF<|VYS>&<d$Y1?(6Ws:YSin_zL/g7$lihgA;m7YZd&:*W$~zFZ:uMPE)>hBoD%_N4#&j9XKzL)~HQqtOli]1v>pU-^Gi(2&'.;E7,v4Sp(z>=V)-uKl+bvS3dNdm$(IV-d3|'c^+k/^FEQ`TM,5bDs.zr18II'[4wwHMhPoe?WM[aA&C/h**K2]G[A*?X:8]%n./*;pG;:(<[E~Ck6#G>dG+qq=?XYqt2C=YKDwCAlp*jBq09vF.d(W~m}:&|fS<T3qM?xqib>EREl7<9xC#OI)vaF`)8D|PKR>T`xh.Ey(}BRSUl*aYPSMIQUKL%dCGPD6qM9n7E7##b;-E5[o{w]{8yRc>?w7l5uR)Nth+AUVaZ=RBvh(s88;BEcT$QAZ5o-xoQ~aX)wgH.}[8HA>D=Qr5uN0E8>i*[^vje}>1ZOWJ^A^MIf+'x,fo-FHE7D~KL$Q3xo1J:W1HpV_TJ$}W1%[K<DF*p9h<M])icKL)/xy}cp~6a~WGSr=:<PCACZF2QkK&J4,IFqNkO,(ZW78WD4Q6a,pTKE3UA'6auu6B>VS&h:bJPA})p>DH:kBI|^f$dgcF.]&>89VW?&<V-&<>ocTC>4zY$?a[H*PQN)hG|/j:Ybk+S.&h(b'[]%hR^_K&pCk|~KE`Xd]DA>A)X(H^%crprSJ2kr(G%x4:r]$6(%{^R2nZ)m|+`}H*PV7[vKH1q%J{-9n_C+H7f3[R4I(VuKXgwvCH*c;EQKX4ay,)uObGhxul$7/6?&CU5fddkAXv'Bwq:+i+DPC2m7SZ}RLI?R6]}5q&NWJg%(_{iJHw]=uEYp{3f5=&_+F/u?0V&`CSvvN#fn.'-N0Sk.W6NKNPtcm$OpI%fut8%F#:OcfggBbG^lS(S&KIO(>,ZJO|0p|Mv&Ge`Jyt`HSHY%pny0|JmX-0*W?mM.EZ'D~8,>|+G4O2zvM_v=%u5mqOmK&H<gkI*fa.p;U]r&A#+:p+6~-EywH4:5`g?}lbtd[0ihD$+,yO`1=^s|IglIWE2>Wd,:z>;PA#Xnf61io)G3b;DMUqRLbAEHA6KiJLZ]xD?>v;)(*$EP:k[MqIEx|(]?|yR(b*#.w6**+,sz$.r=+$;$abS~yrBA#DG|CdvNn&D6=R|yS<)|PG2HMZ&v`v7$}fME*=%[XN~P7$j&O3BDGR`^Fry={5a2){GS5I#:yWa5#oEKm&MZ:w`ED-9+0xgWYg?lP.?<[7m4nK3;lU=8&#Ubq.=ht=?rp-=<|%C}Paaj#B=kf??qsD=6:5WRC,xR%GLG~R9<J4}33){Jnr:C<Eq&%>dI9zE/19E2Xk)>0#=oivK{4=pD^JoWi-mM^E=HX%Fq[Gn91<wS>:={KESoOIE{0[M3t2?:|B-Q^=lmB&>iKvr18R~<V^`d<C'CVw_7}IU2(6#a5#f?:5W?C+i;kCY?}>8O9Gw2QKcO5Nt{[i2LJd-9%AD;>-hKq=sO6.41lfgpE8-k|;'G^jC9v%`(eX_P]2AUQ,m&:[S}%].SC|4NA)K]*4Qc$2X6l>EIov.<jS*Yr.hFGEQ(qv4/~paVQ8<~0B4ODc8S?{dJ|QUP7R^nZD*W0f5lgn-:8M?l&4*9HNDrxMs1Ui}$QEE%*LL4oC-S2*[hW}3K&lWAG8s/PL7Uq83{&K%>zQI{.&Y]LLdcu>3j>5P)(=6Tgd|?mG'n;3'bG6w94-W-vHMd_N}MnjVF./#FxaERrmx3]RNNQ+yD_k37WF|vIP27e7A4xGP;{|kR8r+CUXtzJF<[L`'Do*Z=hyktl.Xo~'Oz.7Y(gGlM{C'F(Jw9UBr+gTD`{{,#1KCf)Aaw,9M*,h8.f..%{.:>/SW827#j4ki1}vO%k4z'K/y8WH;jgTNqu^pFG0Mbp%;LIR%*vqeQ?yY&aK37%TGkQ0iuOp{`u<W>wIe7%AnfSNER;/%o77r>`:KSeU/fhB{xhtiry$hGJBM[XJj7,DTqfP6r'fWN%0Z>I;B%^R8lTiGgWW>*<2IE&5#N4.#Gom)zV,>0Q4fB][2/,'ma]-bUD[+R?'*%Y}TdD:QFh'jS5^?+Szzc&eEE+$s>Vaj6ivi&~5oG>0dVs#%bSi+{hrLN=On(4Wj27<4g3wiD*UDJmsyoi}NpT9hz%'TWC&XP^([]kdI*7,1P=3KY?*}(6]-E2LVOD$bH_/h22+g/RLq;YiGXw5AQhh(CJCT/]ou4j1>V{G*W6;m<TAaS.1?bDZ1w=Be-rRG`{0iE9{EqLM0s1HIRpU1p<b+=wt`-*|ZmK:Imr;;:XcG83<v#6S*uWN^yMm`~/k6.Q;e/L0g][.'('intXO$8rgJI5rg$05EmSQv<Sf,KqvU33l5Mr5FTrwNiLA(/]I~nBMA<U-Oj]r>dCTxF(uxtYD']lQ8Ejs]K[#G1M)q'W}|tjK5a^mNE0pA6DB<0XdaWE-F^*:?^TnjRSGV_H]`.r.KI(|Z:j5[4heUBJW)eKG`{=vIull8OHMaq%lv.AFUlf#_3C?h56Cb'hP`0n->{&YDn4GcB^,^z3WslV9/ZvGzQ+RyCcL4_71&H7,]t0R'=A%#DlRm'8#r#71;e=}6DJ#uDRc0mJ-o]T6{J9[Ua^69D'o{K:K?%PL8r:_4|+`V,|'w>*.vV}(4GXM1/~C1'KpY+WyZ1i+#6I;bM,SZPSCPb&G[W)Oo8aU<E[2cLwC{Kx_|Mw0D/GQ)4>bV#'ATZm`5:gIRi%PnO|w#+`?V[V27${JD6P3RF)6gJF.FC=vXPLR]W^ZPihGBJq-U*%0kcqN;BG(NdOi/AQ#c#9=6V+,2g/xb%bh9Ksr{E%L}UBD<utPCe:YN-5dBD[vH7L2;%vB]VxmPCcnh5;^J1q=rt3nb&]U:>uKt%b|V6`7fdgK;fjK*$7xkTK+*9U<6cr1O]7yv4y3D$A3)<*MG^<{i4bV,3MOth&#rmI9TOkpS#$h[Lh1xa&^uwrJ'Y)`C2FC&%YuIB.]Hz:#QpP34]GBv1n;MHlm''U#4~in~1]^S1<R7]YI.irG[R?AIO:PA7T=9;30?:/A93{9;[~#cG8WLNB76=oOs63Y8MiTVF[bmT(F6)V<fr;%/^w$T+1IsS^`>CDO%w+n,P]iF;Q&_jwN8Pc;_~~A{)AacNr43;M&4O3CL>:Amj4TR;;8xHc<$[;.`t,Pn5l)%>Y#4.(_l&u-2Lm8{7DiwG&}lPFad===fpBWi(L=s'9i)H7b4^i7Xs'3;15+5;%hT].VxLc+Co.0L.n+sBmfU_OQ,2]<8_3r<_+1RC_6PXMQwM4%g6|hzSuYU21Hb]:ErT2LO2A|plE.v-p}+2~P&fj0+PG(A_t?KET8~.f10rY$*H+0FMp)pCxPRtatx(YQ^fs1O-RjE/85w)=F+jn({[2d|G|adM$BW2nDuaW?Z^ehLN|K~8}GP(=b(6UGgbWwD{Yu|-vfaVcF[/:'/R'XN:v)hLjr.Z9/xNp9Rg#lx*p,b*C}KfO})1lP3&u-#T^^rO^e0SQOx=h?8p)vA%M:EEfIfOEV3(^,qf,}*:01xCic2?[z9BDQ/1x3$>E|=>K=IE_h9T/RjE]'AYefN+=XuePDF&J#43PzG}ARP?]CYQ`nU2_#<,51z,*c?K/.D&4?OFPLfVc5$?vG=S&H2d]kNuiDVl];*YJceCA#jdz0bDu34QXH}k,r9>ff+X[Pwk++{ijF#W_d{QH/[.y{2%?%%a{6(2*Bq7eOQx_tY>wIa|(yohVLPRFd*zuO.bk:|Hg9KM>5i;us2XYYLXaD}V|/aN]WcIi#1mi&DJL6=7IxI^06F0wIzPwWc'I.]ayN^*RmQQHEvd)v6b:;jY~>)+C#fBHj>.9k?)$C)z1~.zLybPLw?Aux>H4.Gx96^BmV,AC;&C-RR6lBiX|p]{OW6I-S4y[qM;<<D0:n20oBU<aJC<NJx~|=N:H'Wwp`6([69iCTyiz/[gYr.EqPALT{p8{{0z[:YsD8rP<~dC9;T.%:Y$|(0v:.|*9kgMr9J=qVOda9qVnvhyD|;E8^f8}tv8eIxHa4F#TLsFr8gy,bN%oOpvYRZr8#FFLTJ/R'2zDPkQli{Kz<m=isJ'K:rw1Kfk*iiOPva&Ve8]r5l{J2<[kA}v+%FQuJ%iH}B3)<S^k-LJ0&/Ca?,<+[5I?PKpk4?6z<+NdL~<:xPx]:D5xwRv2_{DVHJ^N'E]oPG*{g#+{icK${:x|iX+1*a<>34%5(7C}:`{;s*hiF3ih6U-uAq5$camKfsTt7UE,_`.3T[FhB5%EdVsGM2eOj:9<=|2c]w;hK<IUKb6b&?I9nY$yqhl`IP883u}3*P^A]6Mfh):;V;q|17<pRq$H`,LB8==HXus6A'#5#J_#,jSOF`';T,gl$YA>aSWiSfLuOyK;1M|8Rf2Pp#kgl443D=L>e#XlK*aCf;x%?l11nv%EKVTt#WhQ%hbSpr&VkVxZieEIOnku#01&=tJ2x,F3x6Ph2c7}e}N+s&/L':INhVR64v/=iCg/tMM~;/e=66~v-ZY;9XQPPt&u&9)d/.4H"
end PySem.W.Fast
set_option autoImplicit true
set_option relaxedAutoImplicit true
abbrev q04:=@PySem.wpAny_bind
abbrev q05:=@PySem.wpAny_pure
abbrev q06:=@if_neg
abbrev q07:=@if_pos
abbrev q08:=@decide_eq_false
abbrev q09:=@decide_eq_true
abbrev q0A:=@List.getD_eq_getElem?_getD
abbrev q0B:=@List.mem_cons_self
abbrev q0C:=@List.mem_append_right
abbrev q0D:=@List.take_add_one
abbrev q0E:=@List.take_of_length_le
abbrev q0F:=@List.mem_of_mem_take
abbrev q0G:=@List.length_range
abbrev q0H:=@List.map_congr_left
abbrev q0I:=@Option.getD_some
abbrev q0J:=@List.range_succ
abbrev q0K:=@List.length_zip
abbrev q0L:=@Bool.and_eq_true
abbrev q0M:=@Nat.le_of_lt
abbrev q0N:=@absurd
abbrev q0O:=@congrArg
abbrev q0P:=@Option.some.inj
abbrev q0Q:=@List.filterMap_cons
abbrev q0R:=@PySem.sizeLine_eq
abbrev q0S:=@PySem.wpAny_mono
abbrev q0T:=@PySem.wpAny_holding
abbrev q0U:=@List.length_singleton
abbrev q0V:=@Bool.false_eq_true
abbrev q0W:=@decide_eq_true_eq
abbrev q0X:=@List.nodup_cons
theorem zzl(h:1=1:=by exact Or.inl rfl):1=1:=h
theorem zz0(h:1=1:=by rfl):1=1:=h
theorem zz1(h:1=1:=by decide):1=1:=h
theorem zz2(h:1=1:=by decide +kernel):1=1:=h
theorem zz3(h:1=1:=by first | exact .inl rfl | exact .inr rfl | assumption):1=1:=h
theorem zz4(h:1=1:=by intro _;rfl):1=1:=h
theorem zz5(h:1=1:=by with_unfolding_all rfl):1=1:=h
theorem zz6(h:1=1:=by first | exact Or.inl rfl | exact Or.inr (Or.inl rfl) | exact Or.inr (Or.inr rfl)):1=1:=h
local macro_rules|`(tactic|omega)=>`(tactic|first|lia|omega +splitDisjunctions)
set_option linter.all false
set_option Elab.async false
set_option maxRecDepth 100000
abbrev Nq:=PySem.Value->PySem.Shared->Prop
abbrev Nr:=PySem.W.Frag
abbrev Nt:=List (PySem.Addr×PySem.Obj)
abbrev Nu:=List Nat
abbrev Nv:=PySem.Shared
abbrev Nw:=List PySem.Value
abbrev Ny:=List PySem.Addr
abbrev Nz:=PySem.Str->Option PySem.Value
abbrev NA:=PySem.FuncData
abbrev NC:=PySem.Program
abbrev ND:=List PySem.Str
abbrev NE:=PySem.Around
abbrev NF:=PySem.World
abbrev NG:=Option PySem.Addr
abbrev NH:=List PySem.Expr
local macro_rules|`(term|⋯)=>`(by omega)
local macro_rules|`(term|nofun)=>`(by decide)
abbrev Mv:=@List.getElem?_eq_getElem
abbrev Mw:=@List.getElem?_eq_some_iff
abbrev Mx:=@PySem.Heap.get?_push_of_some
abbrev My:=@List.length_map
abbrev Mz:=@List.mem_singleton
abbrev MA:=@List.getElem?_map
abbrev MB:=@List.mem_of_getElem?
abbrev MC:=@PySem.Heap.get?_update_other
abbrev MD:=@PySem.Heap.get?_push_size
abbrev ME:=@List.size_toArray
abbrev MF:=@List.getElem_mem
abbrev MG:=@Int.toNat_natCast
abbrev MH:=@PySem.Heap.get?_update_self
abbrev MI:=@List.length_cons
abbrev MJ:=@List.map_append
abbrev MK:=@List.mem_append
abbrev ML:=@List.map_map
abbrev MM:=@List.mem_cons
abbrev MN:=@List.mem_cons_of_mem
abbrev MO:=@List.length_reverse
abbrev MP:=@Nat.lt_of_lt_of_le
abbrev MQ:=@Nat.ne_of_lt
abbrev MR:=@List.getElem?_append_right
abbrev MS:=@List.getElem?_append_left
abbrev MT:=@List.length_append
abbrev MU:=@Nat.le_refl
abbrev MV:=@Nat.zero_le
abbrev MW:=@Bool.false_ne_true
abbrev MX:=@PySem.Heap.lt_size
abbrev MY:=@Option.map_eq_some_iff
abbrev MZ:=@List.getElem_map
abbrev M3:=@List.getElem?_cons_succ
abbrev M4:=@List.map_cons
abbrev M5:=@Nat.le_trans
abbrev M6:=@Nat.lt_irrefl
abbrev M7:=@Nat.lt_succ_self
abbrev M8:=@List.append_nil
abbrev M9:=@List.append_assoc
abbrev M_:=@List.getElem?_set_self
abbrev M':=@List.take_length
abbrev Na:=@List.length_take
abbrev Nb:=@List.length_drop
abbrev Nc:=@Nat.lt_of_le_of_lt
abbrev Nd:=@List.length_eq_zero_iff
abbrev Nf:=@List.mem_map
abbrev Ng:=@List.all_eq_true
abbrev Nh:=@Nat.add_le_add_left
abbrev Ni:=@List.getElem_toArray
abbrev Nj:=@List.nil_append
abbrev Nk:=@Int.emod_nonneg
abbrev Nl:=@Int.emod_lt_of_pos
abbrev Nm:=@Int.toNat_of_nonneg
abbrev Nn:=@Nat.min_eq_left
abbrev No:=@List.take_zero
abbrev Np:=@List.drop_zero
set_option hygiene false
local macro_rules|`(a⁻¹)=>`((.ins C g [("name",.str (tx n)),("cost",.int c),("part_names",.ref l)]))
local macro_rules|`(↑$f)=>`($f P w K mg base bw)
local macro_rules|`($a∣$b)=>`(($a).cal l.prog w base X G (λ_ F m k b=>$b))
set_option hygiene true
namespace L2
open PySem PySem.Spec PyProof.Rows
abbrev dm:=Sum Int Str
def uz:dm->Value->Bool
 | .inl k,v=>Value.isInt k v
 | .inr x,v=>Value.isStrOf x v
def Jy(w:NF):dm->Int
 | .inl k=>hashInt k
 | .inr x=>hashStr w x
theorem cI:∀{k:dm} {v:Value},uz k v=true->(∃i t,k=Sum.inl i/\v=Value.int i t)\/(∃x t,k=Sum.inr x/\v=Value.str x t)
 | .inl i,v,h=>by
  obtain⟨t,e⟩:=Value.isInt_shape (k:=i) (v:=v) h;exact .inl ⟨i,t,rfl,e⟩
 | .inr x,v,h=>by
  obtain⟨t,e⟩:=Value.isStrOf_shape (x:=x) (v:=v) h;exact .inr ⟨x,t,rfl,e⟩
theorem Cg(i:Int)(t:Tok):uz (.inl i) (.int i t)=true:=by simp[uz,Value.isInt]
theorem CQ(x:Str)(t:Tok):uz (.inr x) (.str x t)=true:=by simp[uz,Value.isStrOf]
theorem HV(a b:Int):decide ((Sum.inl a:dm)=Sum.inl b)=(a==b):=by
 by_cases e:a=b
 ·subst e;simp
 ·have h:¬ (Sum.inl a:dm)=Sum.inl b:=λq=>e (Sum.inl.inj q)
  rw[q08 h];exact(beq_eq_false_iff_ne.mpr e).symm
theorem Hs(a b:Str):decide ((Sum.inr a:dm)=Sum.inr b)=decide (a=b):=by
 by_cases e:a=b
 ·subst e;simp
 ·have h:¬ (Sum.inr a:dm)=Sum.inr b:=λq=>e (Sum.inr.inj q)
  rw[q08 h,q08 e]
theorem HW(a:Int)(b:Str):decide ((Sum.inl a:dm)=Sum.inr b)=false:=q08 (λq=>nomatch q)
theorem HC(a:Str)(b:Int):decide ((Sum.inr a:dm)=Sum.inl b)=false:=q08 (λq=>nomatch q)
def cO(prog:NC)(w:NF):PySem.KeyKind prog w dm where
 is:=uz
 hash:=Jy w
 inj:=λv a b ha hb=>by
  rcases cI ha with⟨i,t,rfl,rfl⟩ | ⟨x,t,rfl,rfl⟩
  ·rcases cI hb with⟨j,u,rfl,e⟩ | ⟨y,u,rfl,e⟩
   ·injection e with e1 _;rw[e1]
   ·exact nomatch e
  ·rcases cI hb with⟨j,u,rfl,e⟩ | ⟨y,u,rfl,e⟩
   ·exact nomatch e
   ·injection e with e1 _;rw[e1]
 byValue:=λk v h=>by
  rcases cI h with⟨i,t,rfl,rfl⟩ | ⟨x,t,rfl,rfl⟩<;>rfl
 pyHash:=λhv h=>by
  rcases cI hv with⟨i,t,rfl,rfl⟩ | ⟨x,t,rfl,rfl⟩
  ·exact wpAny_pyHash_int h
  ·exact wpAny_pyHash_str h
 eqBool:=λhu hv h=>by
  rcases cI hu with⟨i,t,rfl,rfl⟩ | ⟨x,t,rfl,rfl⟩
  ·rcases cI hv with⟨j,u,rfl,rfl⟩ | ⟨y,u,rfl,rfl⟩
   ·rw[HV]at h;exact wpAny_eqBool_int h
   ·rw[HW]at h;exact SeqAt.EqAt.int_str i t y u _ _ _ _ h
  ·rcases cI hv with⟨j,u,rfl,rfl⟩ | ⟨y,u,rfl,rfl⟩
   ·rw[HC]at h;exact SeqAt.EqAt.str_int x t j u _ _ _ _ h
   ·rw[Hs]at h;exact wpAny_eqBool_str h
 «strs»:=λk x t v h=>by
  rcases cI h with⟨i,u,rfl,e⟩ | ⟨y,u,rfl,e⟩
  ·exact nomatch e
  ·injection e with e1 _
   subst e1;cases v<;>rfl
theorem xS(prog:NC)(w:NF)(i:Int)(t:Tok):(cO prog w).is (.inl i) (.int i t)=true:=Cg i t
theorem wT(prog:NC)(w:NF)(x:Str)(t:Tok):(cO prog w).is (.inr x) (.str x t)=true:=CQ x t
inductive V where
 |non | bl (b:Bool) | int (i:Int) | str (x:Str) | byt (b:Array UInt8) | flt (b:UInt64) | ref (a:Addr) | ty (n:String)
 deriving DecidableEq
def bv:V->Value->Prop
 | .non,u=>u=Value.none
 | .bl b,u=>u=Value.bool b
 | .int i,u=>∃t,u=Value.int i t
 | .str x,u=>∃t,u=Value.str x t
 | .byt b,u=>∃t,u=Value.bytes b t
 | .flt b,u=>∃t,u=Value.float b t
 | .ref a,u=>u=Value.ref a
 | .ty n,u=>u=Value.type n
abbrev bq:List V->List Value->Prop:=Paired bv
theorem bq.length(r:bq xs us):xs.length=us.length:=Paired.length r
theorem bq.get:∀{xs:List V} {us:Nw} {i:Nat} {x:V},bq xs us->xs[i]?=some x->∃u,us[i]?=some u/\bv x u
 |_,_,_,_,.nil,e=>by simp at e
 |_,_,0,_,.cons r _,e=>by simp at e;subst e;exact⟨_,rfl,r⟩
 |_,_,i+1,x,.cons _ t,e=>by
  obtain⟨u,h1,h2⟩:=bq.get (i:=i) (x:=x) t (by simpa using e);exact⟨u,by simpa using h1,h2⟩
theorem bq.append:∀{xs ys:List V} {us ws:Nw},bq xs us->bq ys ws->bq (xs++ys) (us++ws)
 |_,_,_,_,.nil,s=>s
 |_,_,_,_,.cons r t,s=>.cons r (bq.append t s)
theorem bq.take:∀{xs:List V} {us:Nw} (n:Nat),bq xs us->bq (xs.take n) (us.take n)
 |_,_,0,_=>.nil
 |_,_,_+1,.nil=>.nil
 |_,_,n+1,.cons r t=>.cons r (bq.take n t)
theorem bq.drop:∀{xs:List V} {us:Nw} (n:Nat),bq xs us->bq (xs.drop n) (us.drop n)
 |_,_,0,r=>r
 |_,_,_+1,.nil=>.nil
 |_,_,n+1,.cons _ t=>bq.drop n t
def kX:Option V->Option Value->Prop
 |some v,some u=>bv v u
 |none,none=>True
 |_,_=>False
def KV{κ:Type}:List (κ×V)->List (κ×Value)->Prop:=Paired fun(p:κ×V) (q:κ×Value)=>p.1=q.1/\bv p.2 q.2
def kV:dm->V
 | .inl i=>.int i
 | .inr x=>.str x
inductive HO where
  |lst (xs:List V)
  |tup (xs:List V)
  |dK (kvs:List (dm×V)) | dT (kvs:List (List dm×V))
  |set(S:Int->Bool) (n:Nat)
  |ins (C dx:Addr) (fs:List (Str×V))
  |own (x:Addr)
  |xd (fs:List (Str×V))
  |met (f x:Addr)
  |rng (lo hi:Int)
  |frz (o:Obj) (u:HO)
  |tbl (ps:Array Value)
  |ext (φ:Heap->Prop)
abbrev Hp:=Addr->Option HO
def aC(H:Hp)(a:Addr)(o:HO):Hp:=λb=>if b=a then some o else H b
theorem ad:aC H a o a=some o:=by unfold aC;rw[q07 rfl]
theorem aq{a b:Addr}(h:b≠a):aC H a o b=H b:=by unfold aC;rw[q06 h]
theorem nk:aC (aC H a o) a u=aC H a u:=by
 funext b;unfold aC;split<;>rfl
theorem IK{H:Hp}{o u:HO}(h:H a=some o)(h':H b=some u)(d:o≠u):a≠b:=by
 intro e;subst e;rw[h]at h';exact d (q0P h')
theorem aK{H:Hp}{o:HO}(h:H a=some o)(h':H b=none):a≠b:=by
 intro e;subst e;rw[h]at h';cases h'
section
variable (P:NC)(w:NF)
def bQ(H:Hp)(h:Heap)(a:Addr):HO->Prop
 | .lst xs=>xs.length<=sizeLine/\∃(its:Nw) (n:Nat),bq xs its/\h.get? a=some {cls:=.type "list",data:=.seq its.toArray n}
 | .tup xs=>xs.length<=sizeLine/\∃its:List Value,bq xs its/\IsTup h a its.toArray
 | .dK kvs=>kvs.length<=sizeLine/\(a==sysModules)=false/\∃vs,KV kvs vs/\h.DictOf (cO P w) a vs
 | .dT kvs=>kvs.length<=sizeLine/\(a==sysModules)=false/\∃xs:List (List dm×Addr×Value),
   Paired (fun(p:List dm×V) (q:List dm×Addr×Value)=>p.1=q.1/\H q.2.1=some (.tup (p.1.map kV))/\bv p.2 q.2.2) kvs xs /\
   ∃o es ep,h.get? a=some o/\o.ExactDict/\o.data=.dict es ep/\es.toList=xs.map (entryOfKey (tupleKind (cO P w)))/\(xs.map (·.1)).Nodup
 | .set S n=>h.SetOf (intKind P w) a S n
 | .ins C dx fs=>H dx=some (.own a)/\fs.length<=1000/\dx≠a/\h.get? a=some (PySem.W.instObj C dx) /\
   ∃mA,h.Ns1 dx mA/\(∀f,kX (fs.lookup f) (mA f))/\PySem.Within mA (fs.map (·.1))
 | .own _=>∃o,h.get? a=some o
 | .xd fs=>∃mA,h.Ns1 a mA/\∀f,kX (fs.lookup f) (mA f)
 | .rng lo hi=>∃t u v,h.get? a=some {cls:=.type "range",data:=.fields #[.int lo t,.int hi u,.int 1 v]}
 | .frz o u=>h.get? a=some o/\bQ H h a u
 | .tbl ps=>h.get? a=some {cls:=.none,data:=.fields ps}
 | .met f x=>h.get? a=some (PySem.W.methodObj (.ref f) (.ref x))
 | .ext φ=>φ h/\(∃o,h.get? a=some o)/\∀h1 h2:Heap,φ h1->(∀o,h1.get? a=some o->h2.get? a=some o)->φ h2
def ly(H:Hp)(h:Heap):Prop:=∀a o,H a=some o->bQ P w H h a o
end
section
variable {P:NC}{w:NF}{H H':Hp}{h h':Heap}{a:Addr}{o:HO}
theorem bQ.lt(x:bQ P w H h a o):a<h.objs.size:=by
 cases o with
 |lst xs=>obtain⟨_,_,_,_,e⟩:=x;exact MX e
 |tup xs=>obtain⟨_,_,_,p⟩:=x;exact p.lt
 |dK kvs=>obtain⟨_,_,_,_,o,_,_,e,_⟩:=x;exact MX e
 |dT kvs=>obtain⟨_,_,_,_,o,_,_,e,_⟩:=x;exact MX e
 |set S n=>obtain⟨o,_,_,_,e,_⟩:=x;exact MX e
 |ins C dx fs=>obtain⟨_,_,_,e,_⟩:=x;exact MX e
 |own y=>obtain⟨_,e⟩:=x;exact MX e
 |xd fs=>obtain⟨_,⟨_,_,_,e,_⟩,_⟩:=x;exact MX e
 |rng lo hi=>obtain⟨_,_,_,e⟩:=x;exact MX e
 |frz ob u=>obtain⟨e,_⟩:=x;exact MX e
 |tbl ps=>exact MX (show h.get? a=some _ from x)
 |met f y=>exact MX (show h.get? a=some _ from x)
 |ext φ=>obtain⟨_,⟨_,e⟩,_⟩:=x;exact MX e
theorem Paired.mapP{α β:Type}{F G:α->β->Prop}:∀{l₁:List α} {l₂:List β},Paired F l₁ l₂->(∀a b,F a b->G a b)->Paired G l₁ l₂
 |_,_,.nil,_=>.nil
 |_,_,.cons r t,f=>.cons (f _ _ r) (Paired.mapP t f)
theorem bQ.stay(x:bQ P w H h a o)(k:∀b u,(b=a\/H b=some (.own a))->h.get? b=some u->h'.get? b=some u)
  (ho:∀b,H b=some (.own a)->H' b=some (.own a)) (ht:∀b xs,H b=some (.tup xs)->H' b=some (.tup xs)):bQ P w H' h' a o:=by
 induction o with
 |lst xs=>obtain⟨z,m,n,r,e⟩:=x;exact⟨z,m,n,r,k _ _ (.inl rfl) e⟩
 |tup xs=>obtain⟨z,m,r,g,e,c⟩:=x;exact⟨z,m,r,g,k _ _ (.inl rfl) e,c⟩
 |dK kvs=>obtain⟨z,y,vs,r,g,j,l,e,c⟩:=x;exact⟨z,y,vs,r,g,j,l,k _ _ (.inl rfl) e,c⟩
 |dT kvs=>
  obtain⟨z,y,xs,r,g,j,l,e,c⟩:=x;exact⟨z,y,xs,Paired.mapP r λp q z=>⟨z.1,ht _ _ z.2.1,z.2.2⟩,g,j,l,k _ _ (.inl rfl) e,c⟩
 |set S n=>obtain⟨g,j,l,t,e,c⟩:=x;exact⟨g,j,l,t,k _ _ (.inl rfl) e,c⟩
 |ins C dx fs=>
  obtain⟨d,z,ne,e,D,⟨B,j,l,I,c⟩,r⟩:=x;exact⟨ho _ d,z,ne,k _ _ (.inl rfl) e,D,⟨B,j,l,k _ _ (.inr d) I,c⟩,r⟩
 |own y=>obtain⟨g,e⟩:=x;exact⟨g,k _ _ (.inl rfl) e⟩
 |xd fs=>obtain⟨D,⟨B,j,l,e,c⟩,r⟩:=x;exact⟨D,⟨B,j,l,k _ _ (.inl rfl) e,c⟩,r⟩
 |rng lo hi=>obtain⟨t,u,v,e⟩:=x;exact⟨t,u,v,k _ _ (.inl rfl) e⟩
 |frz g u ih=>obtain⟨e,q⟩:=x;exact⟨k _ _ (.inl rfl) e,ih q⟩
 |tbl ps=>
  have e:h.get? a=some {cls:=.none,data:=.fields ps}:=x;show h'.get? a=some {cls:=.none,data:=.fields ps};exact k a _ (.inl rfl) e
 |met f y=>
  have e:h.get? a=some (PySem.W.methodObj (.ref f) (.ref y)):=x;show h'.get? a=some (PySem.W.methodObj (.ref f) (.ref y));exact k a _ (.inl rfl) e
 |ext φ=>obtain⟨p,⟨o,e⟩,G⟩:=x;exact⟨G _ _ p λo q=>k _ _ (.inl rfl) q,⟨o,k _ _ (.inl rfl) e⟩,G⟩
theorem ly.lt(x:ly P w H h)(e:H a=some o):a<h.objs.size:=(x a o e).lt
theorem ly.fresh(x:ly P w H h)(e:h.objs.size<=a):H a=none:=by
 cases q:H a with
 |none=>rfl
 |some u=>exact q0N (MP (x.lt q) e) (M6 _)
theorem ly.kept(x:ly P w H h)(k:∀b u,h.get? b=some u->h'.get? b=some u):ly P w H h':=λa o e=>
 (x a o e).stay (λb u _ q=>k b u q) (λ_ q=>q) λ_ _ q=>q
theorem ly.laid(x:ly P w H h)(k:∀b u,h.get? b=some u->h'.get? b=some u)(hp:h.objs.size<=a)(new:bQ P w (aC H a o) h' a o):ly P w (aC H a o) h':=λb u e=>by
 have hn:=x.fresh hp
 by_cases hb:b=a
 ·subst hb;rw[ad]at e;cases e;exact new
 ·rw[aq hb]at e
  exact(x b u e).stay (λc v _ q=>k c v q) (λc q=>by rw[aq (aK q hn)];exact q) λc xs q=>by rw[aq (aK q hn)];exact q
end
def Rd(H:Hp)(a:Addr)(u:HO):Prop:=H a=some u\/∃o,H a=some (.frz o u)
theorem Rd.ok(r:Rd H a u)(x:ly P w H h):bQ P w H h a u:=by
 rcases r with r | ⟨o,r⟩
 ·exact x a u r
 ·obtain⟨_,q⟩:=x a _ r
  exact q
def I0:Option HO->Prop
 |some (.lst _)=>True
 |some (.dK _)=>True
 |some (.dT _)=>True
 |some (.set _ _)=>True
 |some (.ins _ _ _)=>True
 |some (.ext _)=>True
 |_=>False
section
variable {P:NC}{w:NF}{H:Hp}{h h':Heap}{x e:Addr}{o':HO}
theorem ly.write(ok:ly P w H h)(mu:I0 (H x))(he:e=x\/H e=some (.own x))(k:∀b u,b≠e->h.get? b=some u->h'.get? b=some u)(heo:∃u,h'.get? e=some u)
  (new:bQ P w (aC H x o') h' x o'):ly P w (aC H x o') h':=λb u q=>by
 have nown:∀c y,H c=some (.own y)->c≠x:=λc y r z=>by subst z;rw[r]at mu;exact mu
 have ntup:∀c xs,H c=some (.tup xs)->c≠x:=λc xs r z=>by subst z;rw[r]at mu;exact mu
 by_cases hb:b=x
 ·subst hb;rw[ad]at q;cases q;exact new
 ·rw[aq hb]at q
  by_cases hbe:b=e
  ·have q':H b=some (.own x):=by
    rcases he with z | z
    ·exact q0N (hbe.trans z) hb
    ·rw[hbe];exact z
   rw[q]at q';cases q'
   obtain⟨v,a⟩:=heo;exact⟨v,by rw[hbe];exact a⟩
  ·refine(ok b u q).stay (λc v hc r=>k c v ?_ r) (λc r=>by rw[aq (nown c b r)];exact r) λc xs r=>by rw[aq (ntup c xs r)];exact r
   rcases hc with rfl | hc
   ·exact hbe
   ·rintro rfl
    rcases he with z | z
    ·exact nown c b hc z
    ·rw[hc]at z;cases z;exact hb rfl
end
structure Un(fs ex:Ny)(H H':Hp)(h h':Heap):Prop where
 keep:∀b o,h.get? b=some o->H b=none->b∉fs->b∉ex->h'.get? b=some o
 slot:∀b o,h.get? b=some o->H b=none->b∈fs->b∉ex->∃sl,h'.get? b=some {o with slots:=sl}
 free:∀b o,h.get? b=some o->H b=none->b∉ex->H' b=none
 there:∀b o,h.get? b=some o->b∉ex->∃o',h'.get? b=some o'
 tups:∀b xs,H b=some (.tup xs)->H' b=some (.tup xs)
 frzs:∀b o u,H b=some (.frz o u)->H' b=some (.frz o u)
 tbls:∀b ps,H b=some (.tbl ps)->∃more,H' b=some (.tbl (ps++more))
section
variable {fs fs' ex ex':Ny}{H H1 H2:Hp}{h h1 h2 h':Heap}{a x e:Addr}{o:HO}
theorem Un.any(u:Un fs ex H H1 h h1){b:Addr}{ob:Obj}(q:h.get? b=some ob)(n:H b=none)(hx:b∉ex):∃sl,h1.get? b=some {ob with slots:=sl}:=by
 by_cases a:b∈fs
 ·exact u.slot b ob q n a hx
 ·exact⟨ob.slots,u.keep b ob q n a hx⟩
theorem Un.kept(k:∀b u,h.get? b=some u->h'.get? b=some u):Un fs ex H H h h':=
 ⟨λb ob q _ _ _=>k b ob q,λb ob q _ _ _=>⟨ob.slots,k b ob q⟩,λ_ _ _ n _=>n,λb ob q _=>⟨ob,k b ob q⟩,λ_ _ q=>q,λ_ _ _ q=>q,λ_ ps q=>⟨#[],by rw[q];simp⟩⟩
theorem Un.refl:Un fs ex H H h h:=Un.kept λ_ _ q=>q
theorem Un.laid(k:∀b u,h.get? b=some u->h'.get? b=some u)(hp:h.objs.size<=a)(hn:H a=none):Un fs ex H (aC H a o) h h' where
 keep:=λb u q _ _ _=>k b u q
 slot:=λb u q _ _ _=>⟨u.slots,k b u q⟩
 free:=λb u q n _=>by rw[aq (MQ (MP (MX q) hp))];exact n
 there:=λb u q _=>⟨u,k b u q⟩
 tups:=λb xs q=>by rw[aq (aK q hn)];exact q
 frzs:=λb u xs q=>by rw[aq (aK q hn)];exact q
 tbls:=λb ps q=>⟨#[],by rw[aq (aK q hn),q];simp⟩
theorem Un.write(mu:I0 (H x))(he:e=x\/H e=some (.own x))(k:∀b u,b≠e->h.get? b=some u->h'.get? b=some u)(heo:∃u,h'.get? e=some u):Un fs ex H (aC H x o) h h':=by
 have g:∀b,H b=none->b≠x:=λb n z=>by subst z;rw[n]at mu;exact mu
 have j:∀b,H b=none->b≠e:=λb n z=>by
  subst z;rcases he with r | r
  ·exact g b n r
  ·rw[n]at r;cases r
 have c:∀b u,H b=some u->¬ I0 (some u)->b≠x:=λb u q m z=>by subst z;rw[q]at mu;exact m mu
 refine⟨λb u q n _ _=>k b u (j b n) q,λb u q n _ _=>⟨u.slots,k b u (j b n) q⟩,λb u q n _=>by rw[aq (g b n)];exact n,λb u q _=>?_,
  λb l q=>by rw[aq (c b _ q λz=>z)];exact q,λb u l q=>by rw[aq (c b _ q λz=>z)];exact q,λb ps q=>⟨#[],by rw[aq (c b _ q λz=>z),q];simp⟩⟩
 by_cases a:b=e
 ·subst a;exact heo
 ·exact⟨u,k b u a q⟩
end
def Jj(h:Heap)(H:Hp):List Addr:=(List.range h.objs.size).filter λa=>(H a).isSome
def wu(h:Heap)(H:Hp):Heap:=PySem.W.hideAll h (Jj h H)
theorem CO(h:Heap)(H:Hp):(wu h H).objs.size=h.objs.size:=PySem.W.hideAll_size _ _
theorem Dk{h:Heap}{H:Hp}{b:Addr}{o:Obj}(e:h.get? b=some o)(n:H b=none):(wu h H).get? b=some o:=
 PySem.W.hideAll_get _ e λhm=>by
  have q:(H b).isSome=true:=(List.mem_filter.mp hm).2;rw[n]at q;simp at q
theorem Gx{b:Addr}{o:Obj}(e:(wu h H).get? b=some o):h.get? b=some o/\H b=none:=by
 have a:h.get? b=some o:=PySem.W.of_hideAll (Jj h H) e;refine⟨a,?_⟩;cases q:H b with
 |none=>rfl
 |some x=>
  have c:b∈Jj h H:=List.mem_filter.mpr ⟨List.mem_range.mpr (MX a),by simp[q]⟩;have z:(wu h H).get? b=none:=PySem.W.hideAll_none (Jj h H) c;rw[z]at e;cases e
def GH(g h:Heap)(L:Addr):List (Addr×Obj):=(List.range h.objs.size).filterMap λa=>if a=L\/(g.get? a).isSome=true then none else(h.get? a).map λo=>(a,o)
def cy(g h:Heap)(L d:Addr):List (Addr×Obj):=(GH g h L).filter λp=>decide (p.1≠d)
structure Mod(K:Nr)(mg:Nz)(base:Heap):Prop where
 kin:K.In base
 glob:base.Ns mainGlobals mg
 blt:∃mb,base.Ns builtinsNs mb/\∀x:Str,x≠"__name__"->mb x=bootBuiltins x
 nolimit:base.NoLimit
structure Cx where
 prog:Program
 w:World
 K:PySem.W.Frag
 mg:Str->Option Value
 base:Heap
 A:Around
 N:List Str
 s₀:Shared
 H₀:Hp
 env:Env
 outer:List Env
 stack:List Env
 ex:List Addr
 fn:Str->Bool
 calm:Bool
 pn:List (Addr×Obj)
 xe:Value->Shared->Prop
def l5(l:List Env):List Addr:=l.filterMap (·.frame)
abbrev Cx.fs(X:Cx):List Addr:=l5 X.outer
def Jf(sc:Scope)(x:Str):Prop:=sc.names.lookup x=some .local\/sc.names.lookup x=some .cell\/sc.names.lookup x=some .free
def Loc(sc:Scope)(x:Str):Prop:=sc.names.lookup x=some .local\/sc.names.lookup x=some .cell
def Jt(env:Env)(h:Heap)(m:Nz)(x:Str)(u:Value):Prop:=
 (env.kindOf x=some .local/\m x=some u)\/((env.kindOf x=some .cell\/env.kindOf x=some .free)/\∃c,env.cells.lookup x=some c/\h.IsCell c (some u))
structure Cx.Ok(X:Cx):Prop where
 mod:Mod X.K X.mg X.base
 kind:X.env.scope.kind=.function
 glob:X.env.globals=mainGlobals
 blt:X.env.builtins=builtinsNs
 above:X.s₀.heap.objs.size<=X.env.locals
 inj:∀x y c,X.env.cells.lookup x=some c->X.env.cells.lookup y=some c->x=y
 has:∀x,(X.env.kindOf x=some .cell\/X.env.kindOf x=some .free)->∃c,X.env.cells.lookup x=some c
 cab:∀x c,X.fn x=true->X.env.cells.lookup x=some c->X.s₀.heap.objs.size<=c
 hd:X.calm=true->X.A.handled=none
 frames:X.A.frames=some X.stack
 stk:X.stack=X.outer\/(X.stack=X.env::X.outer/\X.env.frame=some X.env.locals)
 exf:∀b∈X.ex,b≠X.env.locals/\∀x c,X.env.cells.lookup x=some c->c≠b
 bs:∀b o,X.base.get? b=some o->X.s₀.heap.get? b=some o/\X.H₀ b=none
 bsz:X.base.objs.size<=X.s₀.heap.objs.size
 noex:∀b o,X.base.get? b=some o->b∉X.ex
 exfs:∀b∈X.ex,b∉X.fs
 funs:X.s₀.heap.FunFrames X.base X.outer
 frf:∀b∈X.fs,X.H₀ b=none
structure Inv(X:Cx)(pins:Nt)(σ:List (Option V))(H:Hp)(s:Nv):Prop where
 ok:X.Ok
 os:s.os=X.s₀.os
 bare:AllBare s.gens
 base:Un X.fs X.ex X.H₀ H X.s₀.heap s.heap
 loc:∃m,s.heap.Ns X.env.locals m/\∀(i:Nat) (x:Str) (v:V),X.N[i]?=some x->σ[i]?=some (some v)->Jf X.env.scope x->∃u,bv v u/\Jt X.env s.heap m x u
 cell:∀x c,X.env.cells.lookup x=some c->∃v,s.heap.IsCell c v
 free:H X.env.locals=none
 freeC:∀x c,X.env.cells.lookup x=some c->H c=none
 pin:∀p∈X.pn++pins,s.heap.get? p.1=some p.2/\H p.1=none/\p.1≠X.env.locals/\p.1∉X.fs/\∀v,p.2.data≠.cell v
 hok:ly X.prog X.w H s.heap
 len:σ.length=X.N.length
section
variable {X:Cx}{pins:Nt}{σ:List (Option V)}{H H':Hp}{s:Nv}{h':Heap}
theorem Cx.Ok.nofr(ok:X.Ok){b:Addr}{o:Obj}(e:X.base.get? b=some o):b∉X.fs:=λhb=>by
 have:=(ok.funs.mem hb).1;rw[e]at this;cases this
theorem Inv.bs(I:Inv X pins σ H s):∀b o,X.base.get? b=some o->s.heap.get? b=some o/\H b=none:=λb o e=>
 ⟨I.base.keep b o (I.ok.bs b o e).1 (I.ok.bs b o e).2 (I.ok.nofr e) (I.ok.noex b o e),I.base.free b o (I.ok.bs b o e).1 (I.ok.bs b o e).2 (I.ok.noex b o e)⟩
theorem Inv.bk(I:Inv X pins σ H s):∀b o,X.base.get? b=some o->s.heap.get? b=some o:=λb o e=>(I.bs b o e).1
theorem Inv.mod(I:Inv X pins σ H s):Mod X.K X.mg X.base:=I.ok.mod
theorem Inv.kIn(I:Inv X pins σ H s):X.K.In s.heap:=I.ok.mod.kin.keeps I.bk
theorem Inv.lt(I:Inv X pins σ H s):X.env.locals<s.heap.objs.size:=let ⟨_,hn,_⟩:=I.loc;hn.lt
theorem Inv.sz(I:Inv X pins σ H s):X.s₀.heap.objs.size<=s.heap.objs.size:=M5 I.ok.above (q0M I.lt)
theorem Inv.nofs(I:Inv X pins σ H s){a:Addr}(h:s.heap.objs.size<=a):a∉X.fs:=λhb=>by
 obtain⟨_,o,ho,_⟩:=I.ok.funs.mem hb;exact q0N (MP (MX ho) (M5 I.sz h)) (M6 _)
theorem Inv.cne(I:Inv X pins σ H s):∀x c,X.env.cells.lookup x=some c->c≠X.env.locals:=λx c e z=>by
 obtain⟨v,o,ho,hd⟩:=I.cell x c e;obtain⟨m,⟨o',es,ep,ho',hd',_⟩,_⟩:=I.loc;rw[z,ho']at ho;cases ho;rw[hd']at hd;cases hd
theorem Inv.funs(I:Inv X pins σ H s):s.heap.FunFrames X.base X.outer:=by
 have all:∀(l:List Env),(∀b∈l5 l,b∈X.fs)->X.s₀.heap.FunFrames X.base l->s.heap.FunFrames X.base l:=by
  intro l
  induction l with
  |nil=>intro _ _;trivial
  |cons env r ih=>
   intro j n;obtain⟨p,⟨L,o,a,m,k,q⟩,hr⟩:=n;have g:L∈X.fs:=j L (by unfold l5;rw[q0Q,a];exact q0B);obtain⟨sl,e⟩:=I.base.slot L o k (I.ok.frf L g) g λz=>I.ok.exfs L z g;exact⟨p,⟨L,_,a,m,e,q⟩,ih (λb c=>j b (by unfold l5;rw[q0Q,a];exact MN _ c)) hr⟩
 exact all X.outer (λ_ c=>c) I.ok.funs
theorem Inv.stack(I:Inv X pins σ H s):s.heap.FunFrames X.base X.stack:=by
 rcases I.ok.stk with e | ⟨e,b⟩
 ·rw[e];exact I.funs
 ·rw[e]
  obtain⟨m,a,_⟩:=I.loc;refine .cons (by rw[I.ok.kind];decide) b a ?_ I.funs;exact Heap.get?_none_of_le (M5 I.ok.bsz I.ok.above)
theorem Inv.stkSub(I:Inv X pins σ H s):∀b∈l5 X.stack,b∈X.env.locals::X.fs:=λb hb=>by
 rcases I.ok.stk with e | ⟨e,hf⟩
 ·rw[e]at hb;exact MN _ hb
 ·rw[e]at hb
  unfold l5 at hb;rw[q0Q,hf]at hb;exact hb
theorem Inv.stkFree(I:Inv X pins σ H s):∀b∈l5 X.stack,H b=none:=λb hb=>by
 rcases MM.mp (I.stkSub b hb) with e | hb
 ·rw[e];exact I.free
 ·obtain⟨_,o,ho,_⟩:=I.ok.funs.mem hb
  exact I.base.free b o ho (I.ok.frf b hb) λz=>I.ok.exfs b z hb
theorem Inv.step{t':Nat}{d':Drawn}{ch:Ny}(I:Inv X pins σ H s)
  (hch:∀b∈ch,(b∈X.ex\/X.s₀.heap.objs.size<=b)/\b≠X.env.locals/\(∀x c,X.env.cells.lookup x=some c->c≠b)/\∀p∈X.pn++pins,p.1≠b)
  (keep:∀b o,b≠X.env.locals->b∉X.fs->b∉ch->s.heap.get? b=some o->H b=none->h'.get? b=some o)
  (slot:∀b o,b≠X.env.locals->b∈X.fs->b∉ch->s.heap.get? b=some o->H b=none->∃sl,h'.get? b=some {o with slots:=sl}) (free:∀b o,b∉ch->s.heap.get? b=some o->H b=none->H' b=none)
  (there:∀b o,b∉ch->s.heap.get? b=some o->∃o',h'.get? b=some o')
  (tups:∀b xs,H b=some (.tup xs)->H' b=some (.tup xs)) (frzs:∀b o u,H b=some (.frz o u)->H' b=some (.frz o u)) (tbls:∀b ps,H b=some (.tbl ps)->∃more,H' b=some (.tbl (ps++more)))
  (ns:∀m,s.heap.Ns X.env.locals m->h'.Ns X.env.locals m) (hok:ly X.prog X.w H' h') (hg:AllBare g') :
  Inv X pins σ H' {s with heap:=h',gens:=g',drawn:=d',toks:=t' }:=by
 have D:∀b o,X.s₀.heap.get? b=some o->b≠X.env.locals:=λb o e=>MQ (MP (MX e) I.ok.above);have w:∀b o,X.s₀.heap.get? b=some o->b∉X.ex->b∉ch:=λb o e a B=>by
  rcases(hch b B).1 with z | z
  ·exact a z
  ·exact q0N (MP (MX e) z) (M6 _)
 have j:∀x c,X.env.cells.lookup x=some c->∀v,s.heap.IsCell c v->h'.IsCell c v:=λx c e v ⟨o,C,L⟩=>by
  have g:c∉ch:=λz=>(hch c z).2.2.1 x c e rfl
  by_cases R:c∈X.fs
  ·obtain⟨sl,q⟩:=slot c o (I.cne x c e) R g C (I.freeC x c e)
   exact⟨_,q,L⟩
  ·exact⟨o,keep c o (I.cne x c e) R g C (I.freeC x c e),L⟩
 refine⟨I.ok,I.os,hg,⟨λb o e n B a=>?_,λb o e n B a=>?_,λb o e n a=>?_,λb o e a=>?_,λb xs e=>tups b xs (I.base.tups b xs e),λb o xs e=>frzs b o xs (I.base.frzs b o xs e),λb ps e=>?_⟩,?_,λx c e=>?_,?_,λx c e=>?_,λp O=>?_,hok,I.len⟩
 ·exact keep b o (D b o e) B (w b o e a) (I.base.keep b o e n B a) (I.base.free b o e n a)
 ·obtain⟨sl,y⟩:=I.base.slot b o e n B a
  obtain⟨J,G⟩:=slot b _ (D b o e) B (w b o e a) y (I.base.free b o e n a);exact⟨J,G⟩
 ·obtain⟨o',y⟩:=I.base.there b o e a
  exact free b o' (w b o e a) y (I.base.free b o e n a)
 ·obtain⟨o',y⟩:=I.base.there b o e a
  exact there b o' (w b o e a) y
 ·obtain⟨m1,y⟩:=I.base.tbls b ps e
  obtain⟨S,G⟩:=tbls b _ y;exact⟨m1++S,by rw[G,Array.append_assoc]⟩
 ·obtain⟨m,T,U⟩:=I.loc
  refine⟨m,ns m T,λi x v y G Y=>?_⟩;obtain⟨u,r,l⟩:=U i x v y G Y;refine⟨u,r,?_⟩;rcases l with l | ⟨k,c,e,z⟩
  ·exact .inl l
  ·exact .inr ⟨k,c,e,j x c e _ z⟩
 ·obtain⟨v,z⟩:=I.cell x c e
  exact⟨v,j x c e v z⟩
 ·obtain⟨m,⟨o,_,_,C,_⟩,_⟩:=I.loc
  exact free _ o (λz=>(hch _ z).2.1 rfl) C I.free
 ·obtain⟨v,o,C,L⟩:=I.cell x c e
  exact free c o (λz=>(hch c z).2.2.1 x c e rfl) C (I.freeC x c e)
 ·obtain⟨e,n,ne,M,d⟩:=I.pin p O
  have g:p.1∉ch:=λz=>(hch p.1 z).2.2.2 p O rfl;exact⟨keep p.1 p.2 ne M g e n,free p.1 p.2 g e n,ne,M,d⟩
theorem Inv.un{t':Nat}(I:Inv X pins σ H s)(u:Un X.fs [] H H' s.heap h')(hok:ly X.prog X.w H' h'):Inv X pins σ H' {s with heap:=h',toks:=t' }:=by
 obtain⟨m,⟨o,es,ep,k,r⟩,_⟩:=id I.loc;obtain⟨sl,q⟩:=u.any k I.free (by simp);exact I.step (g':=s.gens) (d':=s.drawn) (ch:=[]) (λ_ z=>nomatch z) (λb o _ c _ e n=>u.keep b o e n c (by simp)) (λb o _ c _ e n=>u.slot b o e n c (by simp)) (λb o _ e n=>u.free b o e n (by simp)) (λb o _ e=>u.there b o e (by simp)) u.tups u.frzs u.tbls (λm' p=>by
  obtain⟨o',g,j,a,l⟩:=p;rw[k]at a;cases a
  exact⟨_,g,j,q,l⟩) hok I.bare
theorem Inv.call{t':Nat}{d':Drawn}{ch:Ny}(I:Inv X pins σ H s)(u:Un (l5 X.stack) ch H H' s.heap h')(hok:ly X.prog X.w H' h')(hg:AllBare g')
  (hch:∀b∈ch,(b∈X.ex\/X.s₀.heap.objs.size<=b)/\b≠X.env.locals/\(∀x c,X.env.cells.lookup x=some c->c≠b)/\∀p∈X.pn++pins,p.1≠b) :
  Inv X pins σ H' {s with heap:=h',gens:=g',drawn:=d',toks:=t' }:=by
 obtain⟨m,⟨o,es,ep,q,r⟩,_⟩:=id I.loc;obtain⟨sl,j⟩:=u.any q I.free λz=>(hch _ z).2.1 rfl;exact I.step (ch:=ch) hch (λb o j y a e n=>u.keep b o e n (λz=>(MM.mp (I.stkSub b z)).elim j y) a) (λb o _ _ a e n=>u.any e n a) (λb o a e n=>u.free b o e n a) (λb o a e=>u.there b o e a) u.tups u.frzs u.tbls (λm' w=>by
  obtain⟨o',k,l,g,v⟩:=w;rw[q]at g;cases g
  exact⟨_,k,l,j,v⟩) hok hg
theorem Inv.turned{t':Nat}{it:Addr}(I:Inv X pins σ H s)(k:∀b o,b≠it->s.heap.get? b=some o->h'.get? b=some o)(hn:H it=none)(hL:it≠X.env.locals)
  (h1:it∈X.ex\/X.s₀.heap.objs.size<=it) (h2:∀x c,X.env.cells.lookup x=some c->c≠it) (h3:∀p∈X.pn++pins,p.1≠it):Inv X pins σ H {s with heap:=h',toks:=t' }:=by
 have g:∀b u,H b=some u->b≠it:=λb u e z=>by rw[z,hn]at e;cases e
 refine I.step (g':=s.gens) (d':=s.drawn) (ch:=[it]) (λb w=>?_) (λb o _ _ a e _=>k b o (λz=>a (by simp[z])) e) (λb o _ _ a e _=>⟨o.slots,k b o (λz=>a (by simp[z])) e⟩) (λ_ _ _ _ n=>n)
  (λb o a e=>⟨o,k b o (λz=>a (by simp[z])) e⟩) (λ_ _ e=>e) (λ_ _ _ e=>e) (λb ps e=>⟨#[],by rw[e];simp⟩) (λm l=>?_) (λb u e=>?_) I.bare
 ·have e:b=it:=by simpa using w
  subst e;exact⟨h1,hL,h2,h3⟩
 ·obtain⟨o,y,B,j,r⟩:=l
  exact⟨o,y,B,k _ o (Ne.symm hL) j,r⟩
 ·refine(I.hok b u e).stay (λc v a q=>k c v ?_ q) (λ_ q=>q) λ_ _ q=>q
  rcases a with z | z
  ·rw[z];exact g b u e
  ·exact g c _ z
theorem Inv.tok(I:Inv X pins σ H s)(t:Nat):Inv X pins σ H {s with toks:=t}:=I.un (h':=s.heap) (t':=t) Un.refl I.hok
theorem Inv.kept{t':Nat}(I:Inv X pins σ H s)(k:∀b u,s.heap.get? b=some u->h'.get? b=some u):Inv X pins σ H {s with heap:=h',toks:=t' }:=I.un (Un.kept k) (I.hok.kept k)
theorem Inv.laid{a:Addr}{t':Nat}(I:Inv X pins σ H s)(k:∀b u,s.heap.get? b=some u->h'.get? b=some u)(hp:s.heap.objs.size<=a)(new:bQ X.prog X.w (aC H a o) h' a o) :
  Inv X pins σ (aC H a o) {s with heap:=h',toks:=t' }:=I.un (Un.laid k hp (I.hok.fresh hp)) (I.hok.laid k hp new)
theorem Inv.write{e:Addr}{t':Nat}(I:Inv X pins σ H s)(mu:I0 (H x))(he:e=x\/H e=some (.own x))(k:∀b u,b≠e->s.heap.get? b=some u->h'.get? b=some u)(heo:∃u,h'.get? e=some u)
  (new:bQ X.prog X.w (aC H x o) h' x o):Inv X pins σ (aC H x o) {s with heap:=h',toks:=t' }:=I.un (Un.write mu he k heo) (I.hok.write mu he k heo new)
theorem Inv.pins_of{pins':Nt}(I:Inv X pins σ H s)(h:∀p∈pins',s.heap.get? p.1=some p.2/\H p.1=none/\p.1≠X.env.locals/\p.1∉X.fs/\∀v,p.2.data≠.cell v):Inv X pins' σ H s:=
 ⟨I.ok,I.os,I.bare,I.base,I.loc,I.cell,I.free,I.freeC,λp hp=>(MK.mp hp).elim (λz=>I.pin p (List.mem_append_left _ z)) (h p),I.hok,I.len⟩
theorem qG{N:ND}(hN:N.Nodup){i j:Nat}{x:Str}(a:N[i]?=some x)(b:N[j]?=some x):i=j:=by
 obtain⟨h1,e⟩:=Mw.mp a;obtain⟨h2,c⟩:=Mw.mp b;exact(List.getElem_inj hN).mp (e.trans c.symm)
theorem ue{i:Nat}{x:Str}{Q:Unit->Shared->Prop}(I:Inv X pins σ H s)(hN:X.N.Nodup)(hi:X.N[i]?=some x)(hx:Loc X.env.scope x)(r:bv v u)
  (h:∀s',Inv X pins (σ.set i (some v)) H s'->(∃a,Heap.SameBut a s.heap s'.heap/\(a=X.env.locals\/X.env.cells.lookup x=some a))->Q () s') (hf:autoParam (X.fn x=true\/X.env.scope.names.lookup x=some .local) zz3._auto_1):wpAny M A (storeName X.env x u) Q E s:=by
 obtain⟨m,hn,hl⟩:=id I.loc;have U:(X.env.scope.kind==.class||(X.env.scope.kind==.module&&X.env.locals != X.env.globals))=false:=by rw[I.ok.kind];rfl
 have T:i<σ.length:=by rw[I.len];exact(Mw.mp hi).1
 have cne:=I.cne;have l:∀{a:Addr} {O:Heap},(∃o,s.heap.get? a=some o/\H a=none)->Heap.SameBut a s.heap O->ly X.prog X.w H O:=fun{a O} ha g b ob e=>by
  obtain⟨_,_,C⟩:=ha;refine(I.hok b ob e).stay (λc w' hc q=>(g.2 c ?_).trans q) (λ_ q=>q) λ_ _ q=>q;rintro rfl;rcases hc with rfl | hc
  ·rw[C]at e;cases e
  ·rw[C]at hc;cases hc
 rcases hx with hk | hk
 ·refine wpAny_storeName_local hk hn (λO a1 g=>?_) U
  obtain⟨oL,_,_,a0,_⟩:=id hn;refine h _ ⟨I.ok,I.os,I.bare,⟨λb o e n L hx=>?_,λb o e n L hx=>?_,I.base.free,λb o e hx=>?_,I.base.tups,I.base.frzs,I.base.tbls⟩,⟨_,a1,λj y v' B D e3=>?_⟩,λy c e=>?_,I.free,I.freeC,λp hp=>?_,l ⟨oL,a0,I.free⟩ g,by simpa using I.len⟩ ⟨_,g,.inl rfl⟩
  ·exact(g.2 b (MQ (MP (MX e) I.ok.above))).trans (I.base.keep b o e n L hx)
  ·obtain⟨sl,B⟩:=I.base.slot b o e n L hx
   exact⟨sl,(g.2 b (MQ (MP (MX e) I.ok.above))).trans B⟩
  ·obtain⟨o',B⟩:=I.base.there b o e hx
   exact⟨o',(g.2 b (MQ (MP (MX e) I.ok.above))).trans B⟩
  ·by_cases G:j=i
   ·subst G
    rw[hi]at B;cases B
    rw[M_ T]at D;cases D;exact⟨u,r,.inl ⟨hk,by simp⟩⟩
   ·rw[List.getElem?_set_ne (Ne.symm G)]at D
    obtain⟨u',r',q⟩:=hl j y v' B D e3;refine⟨u',r',?_⟩;rcases q with⟨k,e⟩ | ⟨k,c,e,z⟩
    ·refine .inl ⟨k,?_⟩
     have:y≠x:=λe=>G (qG hN B (e▸hi));simp[this,e]
    ·exact .inr ⟨k,c,e,z.sameBut g (cne y c e)⟩
  ·obtain⟨w',z⟩:=I.cell y c e
   exact⟨w',z.sameBut g (cne y c e)⟩
  ·obtain⟨e,n,ne,nf,d⟩:=I.pin p hp
   exact⟨(g.2 p.1 ne).trans e,n,ne,nf,d⟩
 ·have J:X.fn x=true:=by
   rcases hf with z | z
   ·exact z
   ·rw[z]at hk;cases hk
  obtain⟨c,hc⟩:=I.ok.has x (.inl hk);obtain⟨w',z⟩:=I.cell x c hc;refine wpAny_storeName_cell I.ok.kind hk hc z (λO Z g=>?_);obtain⟨oc,S,R⟩:=id z;refine h {s with heap:=O } ⟨I.ok,I.os,I.bare,⟨λb o e n L hx=>?_,λb o e n L hx=>?_,I.base.free,λb o e hx=>?_,I.base.tups,I.base.frzs,I.base.tbls⟩,⟨m,hn.sameBut g (Ne.symm (cne x c hc)),λj y v' B D e3=>?_⟩,λy c' e=>?_,I.free,I.freeC,λp hp=>?_,l ⟨oc,S,I.freeC x c hc⟩ g,by simpa using I.len⟩ ⟨c,g,.inr hc⟩
  ·exact(g.2 b (MQ (MP (MX e) (I.ok.cab x c J hc)))).trans (I.base.keep b o e n L hx)
  ·obtain⟨sl,B⟩:=I.base.slot b o e n L hx
   exact⟨sl,(g.2 b (MQ (MP (MX e) (I.ok.cab x c J hc)))).trans B⟩
  ·obtain⟨o',B⟩:=I.base.there b o e hx
   exact⟨o',(g.2 b (MQ (MP (MX e) (I.ok.cab x c J hc)))).trans B⟩
  ·by_cases G:j=i
   ·subst G
    rw[hi]at B;cases B
    rw[M_ T]at D;cases D;exact⟨u,r,.inr ⟨.inl hk,c,hc,Z⟩⟩
   ·rw[List.getElem?_set_ne (Ne.symm G)]at D
    obtain⟨u',r',q⟩:=hl j y v' B D e3;refine⟨u',r',?_⟩;rcases q with q | ⟨k,c',e,z'⟩
    ·exact .inl q
    ·refine .inr ⟨k,c',e,z'.sameBut g ?_⟩
     rintro rfl;exact G (qG hN B (I.ok.inj _ _ _ e hc▸hi))
  ·by_cases Y:c'=c
   ·subst Y;exact⟨_,Z⟩
   ·obtain⟨w2,z2⟩:=I.cell y c' e
    exact⟨w2,z2.sameBut g Y⟩
  ·obtain⟨e,n,ne,nf,d⟩:=I.pin p hp
   refine⟨(g.2 p.1 ?_).trans e,n,ne,nf,d⟩;intro q;rw[q,S]at e;have q':oc=p.2:=q0P e;exact d w' (by rw[<- q'];exact R)
theorem nS{i:Nat}{x:Str}{Q:Unit->Shared->Prop}(I:Inv X pins σ H s)(hN:X.N.Nodup)(hi:X.N[i]?=some x)(hx:Loc X.env.scope x)(r:bv v u)
  (h:∀s',Inv X pins (σ.set i (some v)) H s'->Q () s') (hf:autoParam (X.fn x=true\/X.env.scope.names.lookup x=some .local) zz3._auto_1):wpAny M A (storeName X.env x u) Q E s:=
 ue I hN hi hx r (λs' I' _=>h s' I') hf
theorem Inv.call'{s':Nv}{ch:Ny}(I:Inv X pins σ H s)(ho:s'.os=s.os)(u:Un (l5 X.stack) ch H H' s.heap s'.heap)(hok:ly X.prog X.w H' s'.heap)(hg:AllBare s'.gens)
  (hch:∀b∈ch,(b∈X.ex\/X.s₀.heap.objs.size<=b)/\b≠X.env.locals/\(∀x c,X.env.cells.lookup x=some c->c≠b)/\∀p∈X.pn++pins,p.1≠b):Inv X pins σ H' s':=by
 obtain⟨h',g',d',t',a⟩:=s';have e:a=s.os:=ho;subst e;exact I.call (g':=g') (t':=t') (d':=d') u hok hg hch
end
abbrev XK:=Value->Option Addr->Hp->Prop
abbrev St:=List (Option V)
abbrev VK:=V->Hp->Prop
abbrev TE:=St->Hp->VK->Prop
abbrev TT:=St->Hp->(Bool->Hp->Prop)->Prop
abbrev TA:=St->Hp->(List V->Hp->Prop)->Prop
structure iT where
 nx:St->Hp->Prop
 rt:VK
 bk:St->Hp->Prop:=λ_ _=>False
 ct:St->Hp->Prop:=λ_ _=>False
abbrev TS:=iT->St->Hp->Prop
inductive EP(X:Cx)(pins:Nt)(σ:St)(Q:VK)(u:Value)(s':Nv):Prop
 |mk (v:V) (H':Hp) (_:Inv X pins σ H' s') (_:bv v u) (_:Q v H')
inductive TP(X:Cx)(pins:Nt)(σ:St)(Q:Bool->Hp->Prop)(b:Bool)(s':Nv):Prop
 |mk (H':Hp) (_:Inv X pins σ H' s') (_:Q b H')
inductive AP(X:Cx)(pins:Nt)(σ:St)(Q:List V->Hp->Prop)(us:Nw)(s':Nv):Prop
 |mk (vs:List V) (H':Hp) (_:Inv X pins σ H' s') (_:bq vs us) (_:Q vs H')
inductive SN(X:Cx)(pins:Nt)(D:St->Hp->Prop)(s':Nv):Prop
 |mk (σ':St) (H':Hp) (_:Inv X pins σ' H' s') (_:D σ' H')
inductive SR(X:Cx)(pins:Nt)(D:V->Hp->Prop)(u:Value)(s':Nv):Prop
 |mk (v:V) (σ':St) (H':Hp) (_:Inv X pins σ' H' s') (_:bv v u) (_:D v H')
def SP(X:Cx)(pins:Nt)(D:iT)(f:Flow)(s':Nv):Prop:=
 match f with
 | .next=>SN X pins D.nx s'
 | .brk=>SN X pins D.bk s'
 | .cont=>SN X pins D.ct s'
 | .ret u=>SR X pins D.rt u s'
def PE(X:Cx)(e:Expr)(t:TE):Prop:=
 ∀(pins:Nt) (s:Nv) (σ:St) (H:Hp) (Q:VK),Inv X pins σ H s->t σ H Q->wpAny (model X.prog X.w) X.A (eval e X.env) (EP X pins σ Q) X.xe s
def PT(X:Cx)(e:Expr)(t:TT):Prop:=
 ∀(pins:Nt) (s:Nv) (σ:St) (H:Hp) (Q:Bool->Hp->Prop),Inv X pins σ H s->t σ H Q->wpAny (model X.prog X.w) X.A (isTrue e X.env (eval e X.env)) (TP X pins σ Q) X.xe s
def PW(X:Cx)(e:Expr)(t:TT):Prop:=
 ∀(whole:Sem Value) (pins:Nt) (s:Nv) (σ:St) (H:Hp) (Q:Bool->Hp->Prop),Inv X pins σ H s->t σ H Q->wpAny (model X.prog X.w) X.A (isTrue e X.env whole) (TP X pins σ Q) X.xe s
theorem PW.pt{t:TT}(h:PW X e t):PT X e t:=h _
def PA(X:Cx)(es:NH)(t:TA):Prop:=
 ∀(pos:Pos) (pins:Nt) (s:Nv) (σ:St) (H:Hp) (Q:List V->Hp->Prop),Inv X pins σ H s->t σ H Q->wpAny (model X.prog X.w) X.A (spliced (backTo pos (starEach es X.env))) (AP X pins σ Q) X.xe s
def PS(X:Cx)(st:Stmt)(t:TS):Prop:=
 ∀(pins:Nt) (s:Nv) (σ:St) (H:Hp) (D:iT),Inv X pins σ H s->t D σ H->wpAny (model X.prog X.w) X.A (exec st X.env) (SP X pins D) X.xe s
def yf(X:Cx)(st:List Stmt)(t:TS):Prop:=
 ∀(pins:Nt) (s:Nv) (σ:St) (H:Hp) (D:iT),Inv X pins σ H s->t D σ H->wpAny (model X.prog X.w) X.A (execs st X.env) (SP X pins D) X.xe s
theorem bZ{α:Type}{t:Sem α}{Q Q':α->Shared->Prop}{s:Nv}(h:wpAny M A t Q E s)(hQ:∀a s,Q a s->Q' a s):wpAny M A t Q' E s:=q0S h hQ λ_ _ x=>x
section
variable {X:Cx}
def Bb(i:Nat):TE:=λσ H Q=>∃v,σ[i]?=some (some v)/\Q v H
def tC(v:V):TE:=λ_ H Q=>Q v H
theorem HJ{i:Nat}{x:Str}{pos:Pos}(hN:X.N[i]?=some x)(hv:Jf X.env.scope x)(hd:autoParam ((x==("__debug__":Str))=false) zz1._auto_1)(hcd:autoParam ((x==("__classdict__":Str))=false) zz1._auto_1):PE X (.Name x pos) (Bb i):=by
 intro g s σ H Q I h;obtain⟨v,e,h⟩:=h;obtain⟨m,k,o⟩:=I.loc;obtain⟨u,r,l⟩:=o i x v hN e hv;have b:EP X g σ Q u s:=⟨v,H,I,r,h⟩;rcases l with⟨hk,n⟩ | ⟨hk,c,j,a⟩
 ·exact wpAny_Name (wpAny_loadName_local I.ok.kind hk k n b) hd
 ·rcases hk with hk | hk
  ·exact wpAny_Name (wpAny_loadName_cell I.ok.kind hk j a b) hd
  ·exact wpAny_Name (wpAny_loadName_free I.ok.kind hk j a b hcd) hd
theorem ai{i j pos}:PE X (.Constant (.int i) j pos) (tC (.int i)):=λ_ _ _ H _ I h=>wpAny_Constant_int ⟨.int i,H,I.tok _,⟨_,rfl⟩,h⟩
theorem nK{b j pos}:PE X (.Constant (.bool b) j pos) (tC (.bl b)):=λ_ _ _ H _ I h=>Constant_bool ⟨.bl b,H,I,rfl,h⟩
theorem f_{j pos}:PE X (.Constant .none j pos) (tC .non):=λ_ _ _ H _ I h=>Constant_none ⟨.non,H,I,rfl,h⟩
theorem rf{x j pos}:PE X (.Constant (.str x) j pos) (tC (.str x)):=λ_ _ _ H _ I h=>Calls.Constant_str ⟨.str x,H,I.tok _,⟨_,rfl⟩,h⟩
def Gl(X:Cx)(x:Str):Prop:=X.env.kindOf x=some .globalImplicit
theorem ig{pins:Nt}{σ:St}{u:Value}{pos:Pos}{Q:Nq}(I:Inv X pins σ H s)(hg:Gl X x)(hm:X.mg x=some u)(h:Q u s)
  (hd:autoParam ((x==("__debug__":Str))=false) zz1._auto_1):wpAny (model X.prog X.w) X.A (eval (.Name x pos) X.env) Q E s:=
 Calls.Name_function_global I.ok.kind hg (Calls.loadGlobal_global (by rw[I.ok.glob];exact I.mod.glob.keeps I.bk) hm h) hd
theorem fP{pins:Nt}{σ:St}{u:Value}{pos:Pos}{Q:Nq}(I:Inv X pins σ H s)(hg:Gl X x)(hm:X.mg x=none)(hv:bootBuiltins x=some u)(h:Q u s)
  (hn:autoParam (x≠"__name__") zz1._auto_1) (hd:autoParam ((x==("__debug__":Str))=false) zz1._auto_1):wpAny (model X.prog X.w) X.A (eval (.Name x pos) X.env) Q E s:=by
 obtain⟨mb,h1,h2⟩:=I.mod.blt;exact Calls.Name_function_global I.ok.kind hg (Calls.loadGlobal_builtin (by rw[I.ok.glob];exact I.mod.glob.keeps I.bk) hm (by rw[I.ok.blt];exact h1.keeps I.bk) ((h2 x hn).trans hv) h) hd
theorem dz{u:Value}{pos:Pos}(hg:Gl X x)(hm:X.mg x=some u)(r:bv v u)(hd:autoParam ((x==("__debug__":Str))=false) zz1._auto_1):PE X (.Name x pos) (tC v):=
 λ_ _ _ H _ I h=>ig I hg hm ⟨v,H,I,r,h⟩ hd
theorem n_{u:Value}{pos:Pos}(hg:Gl X x)(hm:X.mg x=none)(hv:bootBuiltins x=some u)(r:bv v u)(hn:autoParam (x≠"__name__") zz1._auto_1)(hd:autoParam ((x==("__debug__":Str))=false) zz1._auto_1):PE X (.Name x pos) (tC v):=
 λ_ _ _ H _ I h=>fP I hg hm hv ⟨v,H,I,r,h⟩ hn hd
variable {a b:Expr}{ta tb:TE}{pos:Pos}
def PC(X:Cx)(op:CmpOp)(a b:Expr)(t:TE):Prop:=
 ∀(pins:Nt) (s:Nv) (σ:St) (H:Hp) (Q:VK),Inv X pins σ H s->t σ H Q ->
  wpAny (model X.prog X.w) X.A (eval a X.env) (λv s₁=>wpAny (model X.prog X.w) X.A (eval b X.env) (λu s₂=>wpAny (model X.prog X.w) X.A (compareOp op v u) (EP X pins σ Q) X.xe s₂) X.xe s₁) X.xe s
theorem Fb(b:Expr){op:CmpOp}(h:op≠.In)(h2:op≠.NotIn):behindInMarks op b=false:=by
 have c:(op==CmpOp.In)=false:=by cases op<;>first | rfl | exact q0N rfl h
 have a:(op==CmpOp.NotIn)=false:=by cases op<;>first | rfl | exact q0N rfl h2
 cases b<;>simp[behindInMarks,c,a]
def tB(t:TE):TT:=λσ H Q=>t σ H λx H1=>∃c,x=.bl c/\Q c H1
theorem D3{op:CmpOp}{t:TE}(h:PC X op a b t)(h1:behindInMarks op b=false:=by first | exact Fb _ nofun nofun | rfl):PT X (.Compare a [op] [b] pos) (tB t):=by
 intro e s σ H Q I hw;refine wpAny_isTrue_Compare1 (bZ (h e s σ H _ I hw) λv s1 h1=>bZ h1 λu s2 h2=>bZ h2 λc s3 ⟨x,l,k,g,j⟩=>?_) h1;obtain⟨d,rfl,q⟩:=j;cases g;exact wpAny_truthy_bool ⟨l,k,q⟩
variable {tA tB':TT}{cy:NH}
def HB(t u:TT):TT:=λσ H Q=>t σ H λc H1=>if c=true then u σ H1 Q else Q false H1
def JB(t u:TT):TT:=λσ H Q=>t σ H λc H1=>if c=true then Q true H1 else u σ H1 Q
def G7(t:TT):TT:=λσ H Q=>t σ H λc H1=>Q (!c) H1
theorem og(ha:PT X a tA):PW X (.BoolOp .And [a] pos) tA:=by
 intro wh b s σ H Q I h;refine isTrue_and (bZ (ha b s σ H Q I h) λc s1 e=>?_);cases c with
 |true=>exact isTrue_and_nil e
 |false=>exact e
theorem fB(ha:PT X a tA):PW X (.BoolOp .Or [a] pos) tA:=by
 intro wh b s σ H Q I h;refine isTrue_or (bZ (ha b s σ H Q I h) λc s1 e=>?_);cases c with
 |false=>exact isTrue_or_nil e
 |true=>exact e
theorem m7(ha:PT X a tA)(hb:PW X (.BoolOp .And (b::cy) pos) tB'):PW X (.BoolOp .And (a::b::cy) pos) (HB tA tB'):=by
 intro l e s σ H Q I h;refine isTrue_and (bZ (ha e s σ H _ I h) λc m ⟨k,j,g⟩=>?_);cases c with
 |true=>exact hb l e m σ k Q j g
 |false=>exact⟨k,j,g⟩
theorem fm(ha:PT X a tA)(hb:PW X (.BoolOp .Or (b::cy) pos) tB'):PW X (.BoolOp .Or (a::b::cy) pos) (JB tA tB'):=by
 intro l e s σ H Q I h;refine isTrue_or (bZ (ha e s σ H _ I h) λc m ⟨k,j,g⟩=>?_);cases c with
 |true=>exact⟨k,j,g⟩
 |false=>exact hb l e m σ k Q j g
theorem fq(ha:PT X a tA):PT X (.UnaryOp .Not a pos) (G7 tA):=by
 intro b s σ H Q I h;exact isTrue_not (bZ (ha b s σ H (λc e=>Q (!c) e) I h) λ_ _ ⟨e,g,q⟩=>⟨e,g,q⟩)
def DM(ta tb:TE):TE:=λσ H Q=>ta σ H λx H1=>∃c,x=.bl c/\if c=true then tb σ H1 Q else Q (.bl false) H1
def Fk(ta:TE):TE:=λσ H Q=>ta σ H λx H1=>∃c,x=.bl c/\Q (.bl (!c)) H1
theorem oW{op}{t:TE}(h:PE X a t):PE X (.BoolOp op [a] pos) t:=λpins s σ H Q I hw=>BoolOp_one (h pins s σ H Q I hw)
theorem kS(ha:PE X a ta)(hb:PE X (.BoolOp .And (b::cy) pos) tb):PE X (.BoolOp .And (a::b::cy) pos) (DM ta tb):=by
 intro e s σ H Q I h;refine BoolOp_and (bZ (ha e s σ H _ I h) λv l ⟨x,k,j,m,g⟩=>?_);obtain⟨c,rfl,g⟩:=g;cases m;refine wpAny_truthy_bool ?_;cases c with
 |true=>exact hb e l σ k Q j g
 |false=>exact⟨.bl false,k,j,rfl,g⟩
theorem DA(ha:PE X a ta):PE X (.UnaryOp .Not a pos) (Fk ta):=by
 intro b s σ H Q I h;refine UnaryOp_ (bZ (ha b s σ H _ I h) λv s1 ⟨x,k,j,g,e⟩=>?_);obtain⟨c,rfl,e⟩:=e;cases g;exact not_of (wpAny_truthy_bool ⟨.bl (!c),k,j,rfl,e⟩)
def JH(t:TT)(ta tb:TE):TE:=λσ H Q=>t σ H λc H1=>if c=true then ta σ H1 Q else tb σ H1 Q
theorem sH(hc:PT X c tA)(ha:PE X a ta)(hb:PE X b tb):PE X (.IfExp c a b pos) (JH tA ta tb):=by
 intro e s σ H Q I h;refine wpAny_IfExp (bZ (hc e s σ H _ I h) λd g ⟨l,k,j⟩=>?_);cases d with
 |true=>exact ha e g σ l Q k j
 |false=>exact hb e g σ l Q k j
end
def aT(K:Nr)(H:Hp)(a:Addr)(xs:List V):Prop:=
 Rd H a (.lst xs) \/
  ∃(o:Obj) (its:Array Value) (n:Nat),K.lookup a=some o/\o.cls=.type "list"/\o.dict=none/\o.data=.seq its n/\its.size<=sizeLine/\bq xs its.toList
def aV(K:Nr)(H:Hp)(a:Addr)(xs:List V):Prop:=
 Rd H a (.tup xs) \/
  ∃(o:Obj) (its:Array Value) (n:Nat),K.lookup a=some o/\o.cls=.type "tuple"/\o.data=.seq its n/\its.size<=sizeLine/\bq xs its.toList
def Jw:Value->Option V
 | .none=>some .non
 | .bool b=>some (.bl b)
 | .int i _=>some (.int i)
 | .str x _=>some (.str x)
 | .bytes b _=>some (.byt b)
 | .float b _=>some (.flt b)
 | .ref a=>some (.ref a)
 | .type n=>some (.ty n)
 |_=>none
theorem bv.abs(r:bv x u):Jw u=some x:=by
 cases x with
 |non=>cases r;rfl
 |bl _=>cases r;rfl
 |int _=>obtain⟨t,rfl⟩:=r;rfl
 |str _=>obtain⟨t,rfl⟩:=r;rfl
 |byt _=>obtain⟨t,rfl⟩:=r;rfl
 |flt _=>obtain⟨t,rfl⟩:=r;rfl
 |ref _=>cases r;rfl
 |ty _=>cases r;rfl
theorem bv.inj(r:bv x u)(q:bv y u):x=y:=q0P (r.abs.symm.trans q.abs)
theorem bq.inj:∀{xs ys:List V} {us:Nw},bq xs us->bq ys us->xs=ys
 |_,_,_,.nil,.nil=>rfl
 |_,_,_,.cons r t,.cons r' t'=>by rw[r.inj r',bq.inj t t']
section
variable {X:Cx}{pins:Nt}{σ:St}{H:Hp}{s:Nv}{a:Addr}{xs ys:List V}
theorem aT.of{K:Nr}(h:H a=some (.lst xs)):aT K H a xs:=.inl (.inl h)
theorem aV.of{K:Nr}(h:H a=some (.tup xs)):aV K H a xs:=.inl (.inl h)
theorem Inv.list(I:Inv X pins σ H s)(h:aT X.K H a xs):∃its:List Value,bq xs its/\PlainL s.heap a its.toArray/\xs.length<=sizeLine:=by
 rcases h with h | ⟨o,its,n,c,j,g,b,hz,r⟩
 ·obtain⟨z,its,n,r,e⟩:=h.ok I.hok
  exact⟨its,r,⟨_,n,e,rfl,rfl,rfl⟩,z⟩
 ·refine⟨its.toList,r,⟨o,n,I.kIn a o c,j,g,by simpa using b⟩,?_⟩
  have e:=r.length;simp only[Array.length_toList]at e;omega
theorem Inv.tuple(I:Inv X pins σ H s)(h:aV X.K H a xs):∃its:List Value,bq xs its/\IsTup s.heap a its.toArray/\xs.length<=sizeLine:=by
 rcases h with h | ⟨o,its,n,c,g,b,hz,r⟩
 ·obtain⟨z,its,r,p⟩:=h.ok I.hok
  exact⟨its,r,p,z⟩
 ·refine⟨its.toList,r,⟨o,I.kIn a o c,g,n,by simpa using b⟩,?_⟩
  have e:=r.length;simp only[Array.length_toList]at e;omega
theorem Inv.list_inj(I:Inv X pins σ H s)(h:aT X.K H a xs)(h':aT X.K H a ys):xs=ys:=by
 obtain⟨c,r,⟨o,n,e,_,_,d⟩,_⟩:=I.list h;obtain⟨b,k,⟨o',n',g,_,_,j⟩,_⟩:=I.list h';rw[e]at g;cases g
 rw[d]at j
 injection j with d1 _
 have:c=b:=by simpa using q0O Array.toList d1
 subst this;exact r.inj k
theorem Inv.tuple_inj(I:Inv X pins σ H s)(h:aV X.K H a xs)(h':aV X.K H a ys):xs=ys:=by
 obtain⟨c,r,⟨o,e,_,n,d⟩,_⟩:=I.tuple h;obtain⟨b,k,⟨o',g,_,n',j⟩,_⟩:=I.tuple h';rw[e]at g;cases g
 rw[d]at j
 injection j with d1 _
 have:c=b:=by simpa using q0O Array.toList d1
 subst this;exact r.inj k
end
abbrev Cx.wish(X:Cx)(E:Nq):Cx:={X with xe:=E}
abbrev Cx.nox(X:Cx):Cx:=X.wish λ_ _=>False
theorem Cx.Ok.wish{X:Cx}(ok:X.Ok)(E:Nq):(X.wish E).Ok:=
 ⟨ok.mod,ok.kind,ok.glob,ok.blt,ok.above,ok.inj,ok.has,ok.cab,ok.hd,ok.frames,ok.stk,ok.exf,ok.bs,ok.bsz,ok.noex,ok.exfs,ok.funs,ok.frf⟩
theorem Cx.Ok.unwish{X:Cx}(ok:(X.wish E).Ok):X.Ok:=
 ⟨ok.mod,ok.kind,ok.glob,ok.blt,ok.above,ok.inj,ok.has,ok.cab,ok.hd,ok.frames,ok.stk,ok.exf,ok.bs,ok.bsz,ok.noex,ok.exfs,ok.funs,ok.frf⟩
section
variable {X:Cx}{pins:Nt}{σ:St}{H:Hp}{s:Nv}{E:Nq}
theorem Inv.wish(I:Inv X pins σ H s)(E:Nq):Inv (X.wish E) pins σ H s:=⟨I.ok.wish E,I.os,I.bare,I.base,I.loc,I.cell,I.free,I.freeC,I.pin,I.hok,I.len⟩
theorem Inv.unwish(I:Inv (X.wish E) pins σ H s):Inv X pins σ H s:=⟨I.ok.unwish,I.os,I.bare,I.base,I.loc,I.cell,I.free,I.freeC,I.pin,I.hok,I.len⟩
theorem SP.unwish{f:Flow}(h:SP (X.wish E) pins D f s'):SP X pins D f s':=by
 cases f with
 |next=>obtain⟨σ',a,I,q⟩:=h;exact⟨σ',a,I.unwish,q⟩
 |brk=>obtain⟨σ',a,I,q⟩:=h;exact⟨σ',a,I.unwish,q⟩
 |cont=>obtain⟨σ',a,I,q⟩:=h;exact⟨σ',a,I.unwish,q⟩
 |ret u=>obtain⟨v,σ',a,I,r,q⟩:=h;exact⟨v,σ',a,I.unwish,r,q⟩
theorem yf.nox{st:List Stmt}{t:TS}(h:yf X.nox st t):yf X st t:=λpins s σ H D I hw=>
 q0S (h pins s σ H D (I.wish _) hw) (λ_ _ q=>q.unwish) λ_ _ z=>False.elim z
end
section
variable {X:Cx}{st:Stmt}{cy:List Stmt}{t u:TS}{e:Expr}{te:TE}{pos:Pos}
def Ff:TS:=λD σ H=>D.nx σ H
def Ch(t u:TS):TS:=λD σ H=>t {D with nx:=u D} σ H
theorem aN:yf X [] Ff:=λ_ _ σ H _ I h=>wpAny_execs_nil ⟨σ,H,I,h⟩
theorem af(h1:PS X st t)(h2:yf X cy u):yf X (st::cy) (Ch t u):=by
 intro a s σ H D I h;refine wpAny_execs_cons (bZ (h1 a s σ H {D with nx:=u D} I h) λf b q=>?_);cases f with
 |next=>
  obtain⟨σ',e,c,q⟩:=q;exact h2 a b σ' e D c q
 |ret v=>exact q
 |brk=>exact q
 |cont=>exact q
theorem aj(h1:PS X st t):yf X [st] t:=by
 intro a s σ H D I h;refine wpAny_execs_cons (bZ (h1 a s σ H D I h) λf s1 q=>?_);cases f with
 |next=>exact wpAny_execs_nil q
 |ret v=>exact q
 |brk=>exact q
 |cont=>exact q
def yR:TS:=λD σ H=>D.bk σ H
theorem D0:PS X (.Break pos) yR:=λ_ _ σ H _ I h=>wpAny_Break ⟨σ,H,I,h⟩
theorem Inv.quiet{pins:Nt}{σ:St}(I:Inv X pins σ H s):interactive X.env=false:=by simp[interactive,I.ok.kind]
def Fp(te:TE):TS:=λD σ H=>te σ H λ_ H1=>D.nx σ H1
theorem bF(he:PE X e te)(hs:autoParam (swapsWith e none pos.line X.env=pure false) zz0._auto_1):PS X (.Expr e pos) (Fp te):=by
 intro a s σ H D I h;exact wpAny_Expr_any (bZ (he a s σ H _ I h) λv s1 ⟨x,g,c,r1,b⟩=>⟨σ,g,c,b⟩) I.quiet hs
def Ha(te:TE):TS:=λD σ H=>te σ H D.rt
theorem aG(he:PE X e te):PS X (.Return (some e) pos) (Ha te):=by
 intro a s σ H D I h;exact wpAny_Return_some (bZ (he a s σ H _ I h) λv s1 ⟨x,j,g,b,c⟩=>⟨x,σ,j,g,b,c⟩)
def EX:TS:=λD _ H=>D.rt .non H
theorem vB:PS X (.Return none pos) EX:=λ_ _ σ H _ I h=>wpAny_Return_none ⟨.non,σ,H,I,rfl,h⟩
def Es(c:TT)(t u:TS):TS:=λD σ H=>c σ H λb H1=>if b=true then t D σ H1 else u D σ H1
theorem bp{tc:TT}(hc:PT X c tc)(ha:yf X a t)(hb:yf X b u):PS X (.If c a b pos) (Es tc t u):=by
 intro e s σ H D I h;refine wpAny_If (bZ (hc e s σ H _ I h) λd g ⟨l,k,j⟩=>?_);cases d with
 |true=>exact ha e g σ l D k j
 |false=>exact hb e g σ l D k j
end
abbrev TG:=V->St->Hp->(St->Hp->Prop)->Prop
abbrev G2:=List V->St->Hp->(St->Hp->Prop)->Prop
def PG(X:Cx)(target:Expr)(t:TG):Prop:=
 ∀(pins:Nt) (s:Nv) (σ:St) (H:Hp) (v:V) (u:Value) (Q:St->Hp->Prop),Inv X pins σ H s->bv v u->t v σ H Q ->
  wpAny (model X.prog X.w) X.A (assign target X.env u) (λ_ s'=>SN X pins Q s') X.xe s
def Iw(X:Cx)(ts:NH)(t:G2):Prop:=
 ∀(pins:Nt) (s:Nv) (σ:St) (H:Hp) (vs:List V) (us:Nw) (Q:St->Hp->Prop),Inv X pins σ H s->bq vs us->t vs σ H Q ->
  wpAny (model X.prog X.w) X.A (assignInOrder ((assignEach ts X.env).map (·.2)) us) (λ_ s'=>SN X pins Q s') X.xe s
section
variable {X:Cx}{pos:Pos}
def l8(i:Nat):TG:=λv σ H Q=>Q (σ.set i (some v)) H
theorem aD{i:Nat}{x:Str}(hN:X.N.Nodup)(hi:X.N[i]?=some x)(hx:Loc X.env.scope x)(hf:autoParam (X.fn x=true\/X.env.scope.names.lookup x=some .local) zz3._auto_1):PG X (.Name x pos) (l8 i):=by
 intro pins s σ H v u Q I r h;exact wpAny_assign_Name (nS I hN hi hx r (λs' a=>⟨_,H,a,h⟩) hf)
theorem q02(i:Nat){x:Str}(hN:X.N.Nodup)(hi:autoParam (X.N[i]?=some x) zz0._auto_1)(hx:autoParam (Loc X.env.scope x) zzl._auto_1)(hf:autoParam (X.fn x=true\/X.env.scope.names.lookup x=some .local) zz3._auto_1):PG X (.Name x pos) (l8 i):=aD hN hi hx hf
def FT:G2:=λvs σ H Q=>vs=[]/\Q σ H
def AN(t:TG)(u:G2):G2:=λvs σ H Q=>∃v r,vs=v::r/\t v σ H λσ' H'=>u r σ' H' Q
theorem cY:Iw X [] FT:=by
 intro pins s σ H vs us Q I r h;obtain⟨e,h⟩:=h;subst e;cases r;exact assignInOrder_nil ⟨σ,H,I,h⟩
theorem aU{e:Expr}{es:NH}{t:TG}(h1:PG X e t)(h2:Iw X es u)
  (hs:autoParam ((assignEach (e::es) X.env).map (·.2)=assign e X.env::(assignEach es X.env).map (·.2)) zz0._auto_1):Iw X (e::es) (AN t u):=by
 intro a s σ H vs us Q I r h;obtain⟨v,vr,g,h⟩:=h;subst g;cases r with
 |cons r rr=>
  rw[hs];refine assignInOrder_cons (bZ (h1 a s σ H _ _ _ I r h) λ_ b ⟨σ1,k,j,c⟩=>?_);exact h2 a b σ1 k _ _ Q j rr c
def EL(K:Nr)(n:Nat)(t:G2):TG:=λv σ H Q=>∃a xs,v=.ref a/\aV K H a xs/\xs.length=n/\t xs σ H Q
theorem gb{es:NH}{t:G2}{n:Nat}(hc:X.calm=true)(h:Iw X es t)
  (hn:autoParam ((assignEach es X.env).length=n) zz0._auto_1) (hst:autoParam ((assignEach es X.env).findIdx? (·.1)=none) zz0._auto_1):PG X (.Tuple es k pos) (EL X.K n t):=by
 intro c s σ H v u Q I r g;obtain⟨a,l,y,q,w,g⟩:=g;subst y;cases r;obtain⟨its,j,p,hz⟩:=I.tuple q;refine assign_Tuple_tuple (I.ok.hd hc) p (by simp[hn,<- w,j.length]) hst λx m=>?_;have B:Inv X c σ H {s with heap:=x }:=I.kept (t':=s.toks) λb o e=>m b o (MQ (MX e)) e;exact h c _ σ H l _ Q B (by simpa using j) g
def BR(te:TE)(g:TG):TS:=λD σ H=>te σ H λx H1=>g x σ H1 D.nx
theorem Fr{tg:Expr}{te:TE}(he:PE X e te)(hg:PG X tg g)(hs:autoParam (swapsWithSole [tg] e pos.line X.env=pure false) zz0._auto_1)(hw:autoParam (swappedStores [tg] e X.env=pure none) zz0._auto_1)
  (h1:autoParam ((assignEach [tg] X.env).map (·.2)=[assign tg X.env]) zz0._auto_1):PS X (.Assign [tg] e pos) (BR te g):=by
 intro a s σ H D I h;refine wpAny_Assign_stores (bZ (he a s σ H _ I h) λv b ⟨x,l,k,c,j⟩=>?_) hs hw;rw[h1];exact bZ (hg a b σ l x v _ k c j) λ_ s2 q=>q
theorem aB{i:Nat}{x:Str}{te:TE}{pos':Pos}(hN:X.N.Nodup)(hi:X.N[i]?=some x)(hx:Loc X.env.scope x)(he:PE X e te)(hs:autoParam (swapsWith e (some (.Name x pos')) pos.line X.env=pure false) zz0._auto_1)(hf:autoParam (X.fn x=true\/X.env.scope.names.lookup x=some .local) zz3._auto_1) :
  PS X (.Assign [.Name x pos'] e pos) (BR te (l8 i)):=by
 intro a s σ H D I h;refine wpAny_Assign_Name (bZ (he a s σ H _ I h) λv s1 ⟨y,k,j,b,c⟩=>?_) hs;exact nS j hN hi hx b (λs2 g=>⟨_,k,g,c⟩) hf
theorem q01(i:Nat){x:Str}{e:Expr}{te:TE}{pos':Pos}(hN:X.N.Nodup)(he:PE X e te)(hi:autoParam (X.N[i]?=some x) zz0._auto_1)(hx:autoParam (Loc X.env.scope x) zzl._auto_1)(hs:autoParam (swapsWith e (some (.Name x pos')) pos.line X.env=pure false) zz0._auto_1)(hf:autoParam (X.fn x=true\/X.env.scope.names.lookup x=some .local) zz3._auto_1):
  PS X (.Assign [.Name x pos'] e pos) (BR te (l8 i)):=aB hN hi hx he hs hf
end
structure It where
 go:Nat->Hp->Prop
 yld:Nat->Hp->V->Hp->Prop
 stop:Nat->Hp->Prop
def pX(X:Cx)(pins:Nt)(H:Hp)(b:Addr):Prop:=
 H b=none/\b≠X.env.locals/\b∉X.fs/\(b∈X.ex\/X.s₀.heap.objs.size<=b)/\(∀x c,X.env.cells.lookup x=some c->c≠b)/\∀p∈X.pn++pins,p.1≠b
theorem Inv.fpOk{pins:Nt}{σ:St}{H':Hp}{b:Addr}(I:Inv X pins σ H s)(hb:s.heap.objs.size<=b)(hn:H' b=none):pX X pins H' b:=by
 refine⟨hn,Nat.ne_of_gt (MP I.lt hb),I.nofs hb,.inr (M5 I.sz hb),λx c e z=>?_,λp a z=>?_⟩
 ·obtain⟨v,q⟩:=I.cell x c e
  exact q0N (MP q.lt (by rw[z];exact hb)) (M6 _)
 ·exact q0N (MP (MX (I.pin p a).1) (by rw[z];exact hb)) (M6 _)
structure rP(P:NC)(w:NF)(K:Nr)(tg:Expr)(J:It)(fp:Ny)(it:Addr)(tn:Nat->Heap->Prop):Prop where
 mem:it∈fp
 obj:∀i h,tn i h->∀b∈fp,∃o,h.get? b=some o/\∀v,o.data≠.cell v
 keep:∀i h h',tn i h->(∀b∈fp,∀o,h.get? b=some o->h'.get? b=some o)->tn i h'
 item:∀(X:Cx),X.prog=P->X.w=w->X.K=K->X.calm=true->∀(i:Nat) (pins:Nt) (s:Nv) (σ:St) (H:Hp) (E:Nq),Inv X pins σ H s->(∀b∈fp,pX X pins H b)->tn i s.heap->J.go i H ->
  wpAny (model P w) X.A (pyNext (.ref it)) (λr s1=>∃u,r=some u /\
   wpAny (model P w) X.A (letOwnedTupleGo tg (.ref it) u) (λ_ s2=>∃x H',Inv X pins σ H' s2/\bv x u/\J.yld i H x H'/\tn (i+1) s2.heap/\∀b∈fp,H' b=none) E s1) E s
 done:∀(X:Cx),X.prog=P->X.w=w->X.K=K->X.calm=true->∀(i:Nat) (pins:Nt) (s:Nv) (σ:St) (H:Hp) (E:Nq),Inv X pins σ H s->(∀b∈fp,pX X pins H b)->tn i s.heap->J.stop i H ->
  wpAny (model P w) X.A (pyNext (.ref it)) (λr s1=>r=none/\Inv X pins σ H s1) E s
 self:∀(A:NE) (i:Nat) (s:Nv) (Q:Nq) (E:Nq),tn i s.heap->Q (.ref it) s->wpAny (model P w) A (pyIter (.ref it)) Q E s
abbrev TI:=St->Hp->(It->Hp->Prop)->Prop
def JV(X:Cx)(pins:Nt)(σ:St)(tg:Expr)(R:It->Hp->Prop)(itv:Value)(s2:Nv):Prop:=
 ∃(it:Addr) (fp:Ny) (tn:Nat->Heap->Prop) (J:It) (H':Hp),itv=.ref it/\Inv X pins σ H' s2/\rP X.prog X.w X.K tg J fp it tn/\tn 0 s2.heap/\(∀b∈fp,pX X pins H' b)/\R J H'
def PI(X:Cx)(tg iter:Expr)(wi:TI):Prop:=
 ∀(pins:Nt) (s:Nv) (σ:St) (H:Hp) (R:It->Hp->Prop),Inv X pins σ H s->wi σ H R ->
  wpAny (model X.prog X.w) X.A (eval iter X.env) (λv s1=>wpAny (model X.prog X.w) X.A (pyIter v) (JV X pins σ tg R) X.xe s1) X.xe s
theorem xl{s:Nv}{tg:Expr}{it:Addr}{u:Value}{o:Obj}{Q:Unit->Shared->Prop}(ho:s.heap.get? it=some o)(hc:o.cls=.type n)(hd:o.data=.fields vs)
  (hn:["enumerate","zip","dict_itemiterator","dict_reverseitemiterator","odict_iterator","itertools.zip_longest","itertools.pairwise"].contains n=false) (hQ:Q () s):wpAny M A (letOwnedTupleGo tg (.ref it) u) Q E s:=by
 unfold letOwnedTupleGo;cases tg<;>first
  |exact q05 hQ
  | (cases u<;>first
    |exact q05 hQ
    | (refine q04 (wpAny_load ho ?_)
       rw[hc,hd];show wpAny M A (if(["enumerate","zip","dict_itemiterator","dict_reverseitemiterator","odict_iterator","itertools.zip_longest","itertools.pairwise"].contains n&&vs[0]?==some (rawInt _))=true then _ else _) Q E s;rw[q06 (by intro h;rw[hn,Bool.false_and]at h;cases h)];exact q05 hQ))
def Fx(K:Nr)(a:Addr):It:=
 ⟨λi H=>∃xs x,aT K H a xs/\xs[i]?=some x,λi H x H'=>H'=H/\∀xs,aT K H a xs->xs[i]?=some x,λi H=>∃xs,aT K H a xs/\xs.length<=i⟩
def GX(K:Nr)(a:Addr):It:=
 ⟨λi H=>∃xs x,aV K H a xs/\xs[i]?=some x,λi H x H'=>H'=H/\∀xs,aV K H a xs->xs[i]?=some x,λi H=>∃xs,aV K H a xs/\xs.length<=i⟩
def Dd(lo:Int)(n:Nat):It:=⟨λi _=>i<n,λi H x H'=>H'=H/\x=.int (lo+i),λi _=>n<=i⟩
theorem Br{K:Nr}{tg:Expr}(a it:Addr):rP P w K tg (Fx K a) [it] it (λi h=>h.IsListIter it a i) where
 mem:=by simp
 obj:=λi h g b l=>by
  have e:b=it:=by simpa using l
  subst e;obtain⟨o,e,c,d⟩:=g;exact⟨o,e,λv z=>by rw[d]at z;cases z⟩
 keep:=λi h n g k=>g.at λo e=>k it (by simp) o e
 item:=by
  intro X C B D R i j s σ H E I hf g hg;subst C B D;obtain⟨S,x,m,y⟩:=hg;obtain⟨r,q,p,Y⟩:=I.list m;obtain⟨u,hu,U⟩:=q.get y;obtain⟨O,M,f2,L,J,G⟩:=hf it (by simp);refine wpAny_pyNext_list_item g p.isList (x:=u) (by simpa using hu) λn st' T=>?_;have I1:Inv X j σ H {s with heap:=n }:=I.turned (t':=s.toks) (λb o l e=>(T.2 b l).trans e) O M L J G;obtain⟨o,e,c,d⟩:=id st';exact⟨u,rfl,xl (s:={s with heap:=n }) e c d nofun ⟨x,H,I1,U,⟨rfl,λys Z=>by rw[I.list_inj Z m];exact y⟩,st',λb l=>(hf b l).1⟩⟩
 done:=by
  intro X C B D R i j s σ H E I hf g hg;subst C B D;obtain⟨S,m,y⟩:=hg;obtain⟨r,q,p,Y⟩:=I.list m;obtain⟨O,M,f2,L,J,G⟩:=hf it (by simp);have hl:=q.length;exact wpAny_pyNext_list_end (I.ok.hd R) g p.isList (by simp;omega) λn eb=>⟨rfl,I.turned (t':=s.toks) (λb o l e=>eb b o l e) O M L J G⟩
 self:=λ_ _ _ _ _ g h=>wpAny_pyIter_listiter g h
theorem yV{K:Nr}{tg:Expr}(a it:Addr):rP P w K tg (GX K a) [it] it (λi h=>h.IsTupleIter it a i) where
 mem:=by simp
 obj:=λi h g b m=>by
  have e:b=it:=by simpa using m
  subst e;obtain⟨o,e,c,d⟩:=g;exact⟨o,e,λv z=>by rw[d]at z;cases z⟩
 keep:=λi h q g k=>g.at λo e=>k it (by simp) o e
 item:=by
  intro X C B D R i j s σ H E I hf g hg;subst C B D;obtain⟨S,x,n,y⟩:=hg;obtain⟨l,r,p,Y⟩:=I.tuple n;obtain⟨u,hu,U⟩:=r.get y;obtain⟨O,M,f2,L,J,G⟩:=hf it (by simp);refine wpAny_pyNext_tuple_item g (show s.heap.IsTuple a l.toArray from p) (x:=u) (by simpa using hu) λq st' T=>?_;have I1:Inv X j σ H {s with heap:=q }:=I.turned (t':=s.toks) (λb o m e=>(T.2 b m).trans e) O M L J G;obtain⟨o,e,c,d⟩:=id st';exact⟨u,rfl,xl (s:={s with heap:=q }) e c d nofun ⟨x,H,I1,U,⟨rfl,λys Z=>by rw[I.tuple_inj Z n];exact y⟩,st',λb m=>(hf b m).1⟩⟩
 done:=by
  intro X C B D R i j s σ H E I hf g hg;subst C B D;obtain⟨S,n,y⟩:=hg;obtain⟨l,r,p,Y⟩:=I.tuple n;obtain⟨O,M,f2,L,J,G⟩:=hf it (by simp);have hl:=r.length;exact wpAny_pyNext_tuple_end (I.ok.hd R) g (show s.heap.IsTuple a l.toArray from p) (by simp;omega) λq eb=>⟨rfl,I.turned (t':=s.toks) (λb o m e=>eb b o m e) O M L J G⟩
 self:=λ_ _ _ _ _ g h=>wpAny_pyIter_tupleiter g h
theorem zV{K:Nr}{tg:Expr}(it:Addr)(lo:Int)(n:Nat):rP P w K tg (Dd lo n) [it] it (λi h=>IsRangeIter h it (lo+(i:Nat)*1) ((n:Int)-(i:Nat)) 1) where
 mem:=by simp
 obj:=λi h a b g=>by
  have e:b=it:=by simpa using g
  subst e;exact⟨_,a,λv z=>by
   have D:Data.fields _=Data.cell v:=z;cases D⟩
 keep:=λi h j a k=>k it (by simp) _ a
 item:=by
  intro X p l q m i c s σ H E I hf a hg;subst p l q;obtain⟨B,y,L,x,u,r⟩:=hf it (by simp);have W:=Walks.range (prog:=X.prog) (w:=X.w) (I.ok.hd m) it lo 1 n;refine W.item i s _ _ hg a λv j C J st' G=>?_;obtain⟨t,rfl⟩:=J;have O:Inv X c σ H {s with heap:=j,toks:=C}:=I.turned (λb o g e=>G b o (by simpa using g) e) B y x u r;refine⟨_,rfl,xl (s:={s with heap:=j,toks:=C}) (n:="range_iterator") st' rfl rfl nofun ⟨.int (lo+i),H,O,⟨t,?_⟩,⟨rfl,rfl⟩,st',λb g=>(hf b g).1⟩⟩;rw[Int.mul_one]
 done:=by
  intro X p l q m i c s σ H E I hf a hg;subst p l q;obtain⟨B,y,L,x,u,r⟩:=hf it (by simp);exact wpAny_pyNext_range_end (I.ok.hd m) a (by have:n<=i:=hg;omega) λj M=>⟨rfl,I.turned (t':=s.toks) (λb o g e=>M b o g e) B y x u r⟩
 self:=λ_ _ _ _ _ a h=>wpAny_pyIter_rangeiter a h
section
variable {X:Cx}{tg:Expr}
def Em(K:Nr)(tl:TE):TI:=λσ H R=>tl σ H λx H1=>∃a,x=.ref a/\(∃xs,aT K H1 a xs)/\R (Fx K a) H1
def Hb(K:Nr)(tl:TE):TI:=λσ H R=>tl σ H λx H1=>∃a,x=.ref a/\(∃xs,aV K H1 a xs)/\R (GX K a) H1
theorem cG{tl:TE}(hl:PE X l tl):PI X tg l (Em X.K tl):=by
 intro c s σ H R I h;refine bZ (hl c s σ H _ I h) λv g ⟨x,u,j,k,m⟩=>?_;obtain⟨a,e,⟨xs,n⟩,q⟩:=m;subst e;cases k;obtain⟨its,rv,p,hz⟩:=j.list n;refine wpAny_pyIter_list p.isList ?_;refine⟨g.heap.objs.size,[g.heap.objs.size],_,_,u,rfl,j.kept (t':=g.toks) λb o e=>Mx _ e,Br a _,⟨_,MD _ rfl,rfl,rfl⟩,λb r=>?_,q⟩;have e:b=g.heap.objs.size:=by simpa using r
 subst e;exact j.fpOk (MU _) (j.hok.fresh (MU _))
theorem wb{tl:TE}(hl:PE X l tl):PI X tg l (Hb X.K tl):=by
 intro g s σ H R I h;refine bZ (hl g s σ H _ I h) λv c ⟨x,w,j,m,n⟩=>?_;obtain⟨a,e,⟨xs,r⟩,q⟩:=n;subst e;cases m;obtain⟨k,rv,p,hz⟩:=j.tuple r;refine wpAny_pyIter_tuple (show c.heap.IsTuple a k.toArray from p) ?_;refine⟨c.heap.objs.size,[c.heap.objs.size],_,_,w,rfl,j.kept (t':=c.toks) λb o e=>Mx _ e,yV a _,⟨_,MD _ rfl,rfl,rfl⟩,λb u=>?_,q⟩;have e:b=c.heap.objs.size:=by simpa using u
 subst e;exact j.fpOk (MU _) (j.hok.fresh (MU _))
theorem ym{pins:Nt}{σ:St}{s:Nv}{R:It->Hp->Prop}{E:Nq}{lo hi:Int}{t u v:Tok}{tk:Nat}(I:Inv X pins σ H s)(h1:-(2 ^ 62)<=lo)(h2:lo<2 ^ 62)(h3:-(2 ^ 62)<=hi)(h4:hi<2 ^ 62)
  (q:R (Dd lo (hi-lo).toNat) H):wpAny (model X.prog X.w) X.A (pyIter (.ref s.heap.objs.size)) (JV X pins σ tg R) E {s with heap:=s.heap.push {cls:=.type "range",data:=.fields #[.int lo t,.int hi u,.int 1 v]},toks:=tk}:=by
 refine wpAny_pyIter_range (IsRange.new ..) (small_one h1 h2 h3 h4) ?_;have a:Inv X pins σ H {s with heap:=s.heap.push {cls:=.type "range",data:=.fields #[.int lo t,.int hi u,.int 1 v]},toks:=tk}:=I.kept λb o e=>Mx _ e;refine⟨(s.heap.push {cls:=.type "range",data:=.fields #[.int lo t,.int hi u,.int 1 v]}).objs.size,[(s.heap.push {cls:=.type "range",data:=.fields #[.int lo t,.int hi u,.int 1 v]}).objs.size],_,_,H,rfl,
  a.kept (t':=tk) λb o e=>Mx _ e,zV _ lo (hi-lo).toNat,?_,λb c=>?_,q⟩
 ·have j:lo+((0:Nat):Int)*1=lo:=by simp
  have g:(((hi-lo).toNat:Nat):Int)-((0:Nat):Int)=Builtin.Range.rangeSize lo hi 1:=by rw[rangeSize_one];split<;>omega
  show IsRangeIter _ _ (lo+((0:Nat):Int)*1) ((((hi-lo).toNat:Nat):Int)-((0:Nat):Int)) 1;rw[j,g];exact MD _ rfl
 ·have e:b=(s.heap.push {cls:=.type "range",data:=.fields #[.int lo t,.int hi u,.int 1 v]}).objs.size:=by simpa using c
  subst e;exact a.fpOk (MU _) (a.hok.fresh (MU _))
def EV(ta:TA):TI:=λσ H R=>ta σ H λvs H1=>∃j:Int,vs=[.int j]/\-(2 ^ 62)<=j/\j<2 ^ 62/\R (Dd 0 j.toNat) H1
def Fq(ta:TA):TI:=λσ H R=>ta σ H λvs H1=>∃i j:Int,vs=[.int i,.int j]/\(-(2 ^ 62)<=i/\i<2 ^ 62/\-(2 ^ 62)<=j/\j<2 ^ 62)/\R (Dd i (j-i).toNat) H1
theorem dl{a:Expr}{ta:TA}{p pos:Pos}(hg:Gl X "range")(hm:X.mg "range"=none)(ha:PA X [a] ta)(hs:autoParam (starEach [a] X.env=[(false,eval a X.env)]) zz0._auto_1):PI X tg (.Call (.Name "range" p) [a] [] pos) (EV ta):=by
 intro b s σ H R I h;refine Call_ (fP I hg hm boot_range (PyProof.Rows.callWith_type1 (bZ (ha pos b s σ H _ I h) λus s1 ⟨vs,H1,l,g,c⟩=>?_) hs rfl));obtain⟨j,e,c,k,q⟩:=c;subst e;cases g with
 |cons r rr=>
  cases rr;obtain⟨t,rfl⟩:=r;exact call_range_1 (ym l ⋯ ⋯ c k (by simpa using q))
theorem lz{a b:Expr}{ta:TA}{p pos:Pos}(hg:Gl X "range")(hm:X.mg "range"=none)(ha:PA X [a,b] ta)(hs:autoParam (starEach [a,b] X.env=[(false,eval a X.env),(false,eval b X.env)]) zz0._auto_1)(hs2:autoParam (starEach [b] X.env=[(false,eval b X.env)]) zz0._auto_1) :
  PI X tg (.Call (.Name "range" p) [a,b] [] pos) (Fq ta):=by
 intro c s σ H R I h;refine Call_ (fP I hg hm boot_range (PyProof.Rows.callWith_type1 (bZ (ha pos c s σ H _ I h) λus s1 ⟨vs,H1,o,k,g⟩=>?_) (by rw[hs,hs2]) (by rw[hs2];rfl)));obtain⟨i,j,e,⟨g,n,m,l⟩,q⟩:=g;subst e;cases k with
 |cons r rr=>
  cases rr with
  |cons r' rr=>
   cases rr;obtain⟨t,rfl⟩:=r;obtain⟨t',rfl⟩:=r';exact call_range_2 (ym o g n m l q)
def JE(wi:TI)(g:TG)(tb:TS):TS:=λD σ H=>wi σ H λJ H1=>∃W:Nat->Nat->St->Hp->Prop,(∃m,W 0 m σ H1)/\∀i m σ H,W i m σ H ->
 (J.stop i H/\D.nx σ H)\/(J.go i H/\∃N:St->Hp->Prop,(∀σ' H',N σ' H'->∃m',m'<m/\W (i+1) m' σ' H')/\∀x H',J.yld i H x H'->g x σ H' λσ2 H2=>tb {D with nx:=N,ct:=N,bk:=D.nx} σ2 H2)
def rN(fp:Ny)(h:Heap):List (Addr×Obj):=fp.filterMap λb=>(h.get? b).map λo=>(b,o)
theorem jF{fp:Ny}{h:Heap}{b:Addr}{o:Obj}(hb:b∈fp)(e:h.get? b=some o):(b,o)∈rN fp h:=List.mem_filterMap.mpr ⟨b,hb,by rw[e];rfl⟩
theorem B3{fp:Ny}{p:Addr×Obj}(hp:p∈rN fp h):p.1∈fp/\h.get? p.1=some p.2:=by
 obtain⟨b,a,e⟩:=List.mem_filterMap.mp hp;cases q:h.get? b with
 |none=>rw[q]at e;cases e
 |some o=>
  rw[q]at e;have c:(b,o)=p:=q0P e;subst c;exact⟨a,q⟩
theorem Inv.pinned{pins:Nt}{σ:St}{fp:Ny}(I:Inv X pins σ H s)(hf:∀b∈fp,pX X pins H b)(ho:∀b∈fp,∃o,s.heap.get? b=some o/\∀v,o.data≠.cell v):Inv X (pins++rN fp s.heap) σ H s:=
 I.pins_of λp hp=>(MK.mp hp).elim (λz=>I.pin p (q0C _ z)) λz=>by
  obtain⟨hb,e⟩:=B3 z;obtain⟨f0,f1,f2,_⟩:=hf p.1 hb;obtain⟨o,e',d⟩:=ho p.1 hb;rw[e]at e';cases e'
  exact⟨e,f0,f1,f2,d⟩
theorem Inv.unpinned{pins pl:Nt}{σ:St}(I:Inv X (pins++pl) σ H s):Inv X pins σ H s:=I.pins_of λp hp=>I.pin p (q0C _ (List.mem_append_left _ hp))
theorem HF{iter:Expr}{body:List Stmt}{wi:TI}{pos:Pos}(hp:PassesOwn (model X.prog X.w) X.A X.env X.xe)(hc:X.calm=true)(hi:PI X tg iter wi)(hg:PG X tg g)(hb:yf X body tb)
  (hs:autoParam (∀x,foldedSetIterable iter X.env x=pure x) zz4._auto_1):PS X (.For tg iter body [] pos) (JE wi g tb):=by
 intro a s σ H D I h;refine wpAny_For (bZ (hi a s σ H _ I h) λv s1 h1=>bZ h1 λitv s2 h2=>?_) hs;obtain⟨it,L,Y,J,H2,e,I2,T,O,f2,W,⟨m0,w0⟩,w⟩:=h2;subst e
 -- what stays true of the iterator's objects through the loop
 have c:∀{H':Hp},(∀b∈L,H' b=none)->∀b∈L,pX X a H' b:=λhn b hb=>⟨hn b hb,(f2 b hb).2⟩;refine codeAny_forLoop_any (λn s'=>∃i σ' H',Inv X a σ' H' s'/\Y i s'.heap/\(∀b∈L,H' b=none)/\W i n σ' H') ?_ m0 ⟨0,σ,H2,I2,O,λb hb=>(f2 b hb).1,w0⟩;rintro n s3 ⟨i,σ3,M,I3,B,G,w3⟩;rcases w i n σ3 M w3 with⟨y,qn⟩ | ⟨go,N,hN,step⟩
 ·refine wpAny_passesOwn hp (bZ (T.done X rfl rfl rfl hc i a s3 σ3 M X.xe I3 (c G) B y) λr s4 ⟨hr,I4⟩=>?_)
  subst hr;exact wpAny_execs_nil ⟨σ3,M,I4,qn⟩
 ·refine wpAny_passesOwn hp (bZ (T.item X rfl rfl rfl hc i a s3 σ3 M X.xe I3 (c G) B go) λr s4 ⟨u,hr,h4⟩=>?_)
  subst hr;refine wpAny_passesOwn hp (bZ h4 λ_ Z ⟨x,H5,I5,r5,y5,q,S⟩=>?_);have U:=I5.pinned (c S) (T.obj _ _ q);refine wpAny_passesOwn hp (bZ (hg _ Z σ3 H5 x u _ U r5 (step x H5 y5)) λ_ s6 ⟨σ6,H6,I6,q6⟩=>?_);refine wpAny_passesOwn hp (bZ (hb _ s6 σ6 H6 _ I6 q6) λf R p=>?_);have j:∀{σ7:St} {l:Hp},Inv X (a++rN L Z.heap) σ7 l R->N σ7 l->∃m,m<n/\∃i σ' H',Inv X a σ' H' R/\Y i R.heap/\(∀b∈L,H' b=none)/\W i m σ' H':=fun{σ7 l} k C=>by
   obtain⟨m',hm,w7⟩:=hN σ7 l C;refine⟨m',hm,i+1,σ7,l,k.unpinned,T.keep _ _ _ q λb hb o e=>(k.pin (b,o) (q0C _ (q0C _ (jF hb e)))).1,λb hb=>?_,w7⟩;obtain⟨o,e,d⟩:=T.obj _ _ q b hb;exact(k.pin (b,o) (q0C _ (q0C _ (jF hb e)))).2.1
  cases f with
  |next=>obtain⟨σ7,l,k,C⟩:=p;exact j k C
  |cont=>obtain⟨σ7,l,k,C⟩:=p;exact j k C
  |brk=>obtain⟨σ7,l,k,p⟩:=p;exact⟨σ7,l,k.unpinned,p⟩
  |ret v=>obtain⟨x7,σ7,l,k,r7,p⟩:=p;exact⟨x7,σ7,l,k.unpinned,r7,p⟩
end
theorem ED{K:Nr}{xs:List V}{g:TG}{tb:TS}{D:iT}{σ:St}{H:Hp}(Pv:Nat->St->Hp->Prop)(h0:Pv 0 σ H)(hl:∀i σ H,i<=xs.length->Pv i σ H->aT K H a xs)
  (hs:∀i x σ H,xs[i]?=some x->Pv i σ H->g x σ H λσ2 H2=>tb {D with nx:=Pv (i+1),ct:=Pv (i+1),bk:=D.nx} σ2 H2) (hd:∀σ H,Pv xs.length σ H->D.nx σ H) :
  ∃W:Nat->Nat->St->Hp->Prop,(∃m,W 0 m σ H)/\∀i m σ H,W i m σ H ->
   ((Fx K a).stop i H/\D.nx σ H)\/((Fx K a).go i H/\∃N:St->Hp->Prop,(∀σ' H',N σ' H'->∃m',m'<m/\W (i+1) m' σ' H')/\∀x H',(Fx K a).yld i H x H'->g x σ H' λσ2 H2=>tb {D with nx:=N,ct:=N,bk:=D.nx} σ2 H2):=by
 refine⟨λi m σ H=>m=xs.length-i/\i<=xs.length/\Pv i σ H,⟨xs.length,by simp,MV _,h0⟩,?_⟩;rintro i m σ H ⟨rfl,c,p⟩;have q:=hl i σ H c p
 by_cases b:i<xs.length
 ·refine .inr ⟨⟨xs,xs[i],q,by simp[b]⟩,Pv (i+1),λσ' H' p'=>⟨xs.length-(i+1),⋯,rfl,b,p'⟩,λx H' y=>?_⟩
  obtain⟨e,y⟩:=y;subst e;exact hs i x σ _ (y xs q) p
 ·have e:i=xs.length:=by omega
  subst e;exact .inl ⟨⟨xs,q,MU _⟩,hd σ H p⟩
theorem FG{K:Nr}{xs:List V}{g:TG}{tb:TS}{D:iT}{σ:St}{H:Hp}(Pv:Nat->St->Hp->Prop)(h0:Pv 0 σ H)(hl:∀i σ H,i<=xs.length->Pv i σ H->aV K H a xs)
  (hs:∀i x σ H,xs[i]?=some x->Pv i σ H->g x σ H λσ2 H2=>tb {D with nx:=Pv (i+1),ct:=Pv (i+1),bk:=D.nx} σ2 H2) (hd:∀σ H,Pv xs.length σ H->D.nx σ H) :
  ∃W:Nat->Nat->St->Hp->Prop,(∃m,W 0 m σ H)/\∀i m σ H,W i m σ H ->
   ((GX K a).stop i H/\D.nx σ H)\/((GX K a).go i H/\∃N:St->Hp->Prop,(∀σ' H',N σ' H'->∃m',m'<m/\W (i+1) m' σ' H')/\∀x H',(GX K a).yld i H x H'->g x σ H' λσ2 H2=>tb {D with nx:=N,ct:=N,bk:=D.nx} σ2 H2):=by
 refine⟨λi m σ H=>m=xs.length-i/\i<=xs.length/\Pv i σ H,⟨xs.length,by simp,MV _,h0⟩,?_⟩;rintro i m σ H ⟨rfl,c,p⟩;have q:=hl i σ H c p
 by_cases b:i<xs.length
 ·refine .inr ⟨⟨xs,xs[i],q,by simp[b]⟩,Pv (i+1),λσ' H' p'=>⟨xs.length-(i+1),⋯,rfl,b,p'⟩,λx H' y=>?_⟩
  obtain⟨e,y⟩:=y;subst e;exact hs i x σ _ (y xs q) p
 ·have e:i=xs.length:=by omega
  subst e;exact .inl ⟨⟨xs,q,MU _⟩,hd σ H p⟩
theorem C8{lo:Int}{n:Nat}{g:TG}{tb:TS}{D:iT}{σ:St}{H:Hp}(Pv:Nat->St->Hp->Prop)(h0:Pv 0 σ H)
  (hs:∀i σ H,i<n->Pv i σ H->g (.int (lo+i)) σ H λσ2 H2=>tb {D with nx:=Pv (i+1),ct:=Pv (i+1),bk:=D.nx} σ2 H2) (hd:∀σ H,Pv n σ H->D.nx σ H) :
  ∃W:Nat->Nat->St->Hp->Prop,(∃m,W 0 m σ H)/\∀i m σ H,W i m σ H ->
   ((Dd lo n).stop i H/\D.nx σ H)\/((Dd lo n).go i H/\∃N:St->Hp->Prop,(∀σ' H',N σ' H'->∃m',m'<m/\W (i+1) m' σ' H')/\∀x H',(Dd lo n).yld i H x H'->g x σ H' λσ2 H2=>tb {D with nx:=N,ct:=N,bk:=D.nx} σ2 H2):=by
 refine⟨λi m σ H=>m=n-i/\i<=n/\Pv i σ H,⟨n,by simp,MV _,h0⟩,?_⟩;rintro i m σ H ⟨rfl,hi,p⟩
 by_cases a:i<n
 ·refine .inr ⟨a,Pv (i+1),λσ' H' p'=>⟨n-(i+1),⋯,rfl,a,p'⟩,λx H' y=>?_⟩
  obtain⟨e,y⟩:=y;subst e y;exact hs i σ _ a p
 ·have e:i=n:=by omega
  subst e;exact .inl ⟨MU _,hd σ H p⟩
abbrev R2:=V->V->Hp->VK->Prop
def br(X:Cx)(f:Value->Value->Sem Value)(r:R2):Prop:=
 ∀(pins:Nt) (s:Nv) (σ:St) (H:Hp) (x y:V) (v u:Value) (Q:VK),Inv X pins σ H s->bv x v->bv y u->r x y H Q ->
  wpAny (model X.prog X.w) X.A (f v u) (EP X pins σ Q) X.xe s
def iy(X:Cx)(f:Value)(r:List V->Hp->VK->Prop):Prop:=
 ∀(pins:Nt) (s:Nv) (σ:St) (H:Hp) (xs:List V) (us:Nw) (Q:VK),Inv X pins σ H s->bq xs us->r xs H Q ->
  wpAny (model X.prog X.w) X.A (call f us) (EP X pins σ Q) X.xe s
def Ii(r:R2)(ta tb:TE):TE:=λσ H Q=>ta σ H λx H1=>tb σ H1 λy H2=>r x y H2 Q
def rI(C:Int->Int->Prop)(g:Int->Int->V):R2:=λx y H Q=>∃i j,x=.int i/\y=.int j/\C i j/\Q (g i j) H
def BG(g:Int->Int->V):R2:=λx y H Q=>∃i j,x=.int i/\y=.int j/\Q (g i j) H
section
variable {X:Cx}{a b c:Expr}{ta tb tc:TE}{pos:Pos}
theorem Hf(ha:PE X a ta)(hb:PE X b tb){pins:Nt}{s:Nv}{σ:St}{H:Hp}{R:V->V->Hp->Prop}(I:Inv X pins σ H s)
  (h:ta σ H λx H1=>tb σ H1 λy H2=>R x y H2) {Q:Nq} {f:Value->Value->Sem Value}
  (hf:∀v u s2 x y H2,Inv X pins σ H2 s2->bv x v->bv y u->R x y H2->wpAny (model X.prog X.w) X.A (f v u) Q X.xe s2) :
  wpAny (model X.prog X.w) X.A (eval a X.env) (λv s₁=>wpAny (model X.prog X.w) X.A (eval b X.env) (λu s₂=>wpAny (model X.prog X.w) X.A (f v u) Q X.xe s₂) X.xe s₁) X.xe s:=by
 refine bZ (ha pins s σ H _ I h) λv c ⟨x,H1,m,g,k⟩=>?_;refine bZ (hb pins c σ H1 _ m k) λu s2 ⟨y,H2,l,e,j⟩=>?_;exact hf v u s2 x y H2 l g e j
theorem aA{op:Operator}{r:R2}(ho:br X (binaryOp op) r)(ha:PE X a ta)(hb:PE X b tb):PE X (.BinOp a op b pos) (Ii r ta tb):=by
 intro c s σ H Q I h;exact wpAny_BinOp (Hf ha hb I h λv u e x y l k j g q=>ho c e σ l x y v u Q k j g q)
theorem Jh{f:Value->Value->Sem Value}{C:Int->Int->Prop}{g:Int->Int->Int}
  (rule:∀(i j:Int) (t u:Tok) (s:Nv) (Q:Nq) (E:Nq),C i j->Q (.int (g i j) s.toks) {s with toks:=s.toks+1}->wpAny (model X.prog X.w) X.A (f (.int i t) (.int j u)) Q E s) :
  br X f (rI C λi j=>.int (g i j)):=by
 intro pins s σ H x y v u Q I rx ry h;obtain⟨i,j,rfl,rfl,b,q⟩:=h;obtain⟨t,rfl⟩:=rx;obtain⟨a,rfl⟩:=ry;exact rule i j t a s _ _ b ⟨.int (g i j),H,I.tok _,⟨_,rfl⟩,q⟩
theorem Ix{f:Value->Value->Sem Value}{g:Int->Int->Int}
  (rule:∀(i j:Int) (t u:Tok) (s:Nv) (Q:Nq) (E:Nq),Q (.int (g i j) s.toks) {s with toks:=s.toks+1}->wpAny (model X.prog X.w) X.A (f (.int i t) (.int j u)) Q E s) :
  br X f (BG λi j=>.int (g i j)):=by
 intro pins s σ H x y v u Q I rx ry h;obtain⟨i,j,rfl,rfl,q⟩:=h;obtain⟨t,rfl⟩:=rx;obtain⟨a,rfl⟩:=ry;exact rule i j t a s _ _ ⟨.int (g i j),H,I.tok _,⟨_,rfl⟩,q⟩
theorem GI{f:Value->Value->Sem Value}{g:Int->Int->Bool}
  (rule:∀(i j:Int) (t u:Tok) (s:Nv) (Q:Nq) (E:Nq),Q (.bool (g i j)) s->wpAny (model X.prog X.w) X.A (f (.int i t) (.int j u)) Q E s) :
  br X f (BG λi j=>.bl (g i j)):=by
 intro pins s σ H x y v u Q I rx ry h;obtain⟨i,j,rfl,rfl,q⟩:=h;obtain⟨t,rfl⟩:=rx;obtain⟨a,rfl⟩:=ry;exact rule i j t a s _ _ ⟨.bl (g i j),H,I,rfl,q⟩
def Ei(i j:Int):Prop:=(-(2 ^ 64)<i/\i<2 ^ 64)\/(-(2 ^ 64)<j/\j<2 ^ 64)
theorem Ei.ok{i:Int}(h:Ei i j):IntMulOk i j:=by
 rcases h with⟨h1,h2⟩ | ⟨h1,h2⟩
 ·exact .of_left (intBits_le_64 h1 h2)
 ·exact .of_right (intBits_le_64 h1 h2)
theorem bP:br X (binaryOp .Add) (BG λi j=>.int (i+j)):=Ix λ_ _ _ _ _ _ _ q=>add_int q
theorem fk:br X (binaryOp .Sub) (BG λi j=>.int (i-j)):=Ix λ_ _ _ _ _ _ _ q=>sub_int q
theorem fK:br X (binaryOp .Mult) (rI Ei λi j=>.int (i*j)):=Jh λ_ _ _ _ _ _ _ hc q=>mul_int q hc.ok
theorem bO:br X (binaryOp .Mod) (rI (λ_ j=>0<j) λi j=>.int (i%j)):=Jh λi j _ _ _ _ _ hc q=>by
 have h1:(0:Int)<j:=hc;exact mod_int' ⋯ (by rw[Int.fmod_eq_emod_of_nonneg i ⋯];exact q)
end
def Gn:V->V->Bool
 | .non,.non=>true | .non,.int _=>true | .int _,.non=>true | .non,.bl _=>true | .bl _,.non=>true | .non,.str _=>true | .str _,.non=>true
 | .int _,.int _=>true | .bl _,.bl _=>true | .str _,.str _=>true | .byt _,.byt _=>true
 | .int _,.str _=>true | .str _,.int _=>true | .bl _,.str _=>true | .str _,.bl _=>true
 |_,_=>false
def Jm:R2:=λx y H Q=>Gn x y=true/\Q (.bl (decide (x=y))) H
def Jn:R2:=λx y H Q=>Gn x y=true/\Q (.bl (!decide (x=y))) H
theorem AF{i j:Int}:decide (V.int i=V.int j)=(i==j):=by
 rw[Bool.eq_iff_iff];simp
theorem EK{i:Bool}:decide (V.bl i=V.bl j)=(i==j):=by
 rw[Bool.eq_iff_iff];simp
theorem AL{i:Str}:decide (V.str i=V.str j)=(i==j):=by
 rw[Bool.eq_iff_iff];simp
theorem AX{i:Array UInt8}:decide (V.byt i=V.byt j)=(i.toList==j.toList):=by
 rw[Bool.eq_iff_iff];cases i;cases j;simp
section
variable {X:Cx}{a b c:Expr}{ta tb tc:TE}{pos:Pos}
theorem bC{pins:Nt}{σ:St}{Q:VK}{k':Bool}(I:Inv X pins σ H s)(q:Q (.bl k) H)(e:k=k'):EP X pins σ Q (.bool k') s:=by
 subst e;exact⟨.bl k,H,I,rfl,q⟩
theorem c7:br X (compareOp .Eq) Jm:=by
 intro pins s σ H x y v u Q I rx ry h;obtain⟨b,q⟩:=h;cases x with
 |non=>
  cases rx;cases y with
  |non=>cases ry;exact PySem.EqNone.eq_none_none (bC I q (by simp))
  |bl j=>cases ry;exact PySem.EqNone.eq_none_bool (bC I q (by simp))
  |int j=>obtain⟨a,rfl⟩:=ry;exact PySem.EqNone.eq_none_int (bC I q (by simp))
  |str j=>obtain⟨a,rfl⟩:=ry;exact PySem.EqNone.eq_none_str (bC I q (by simp))
  |_=>exact q0N (show false=true from b) MW
 |bl i=>
  cases rx;cases y with
  |non=>cases ry;exact PySem.EqNone.eq_bool_none (bC I q (by simp))
  |bl j=>cases ry;exact eq_bool (bC I q EK)
  |str j=>obtain⟨a,rfl⟩:=ry;exact PySem.EqMixed.eq_bool_str (bC I q (by simp))
  |_=>exact q0N (show false=true from b) MW
 |int i=>
  obtain⟨t,rfl⟩:=rx;cases y with
  |non=>cases ry;exact PySem.EqNone.eq_int_none (bC I q (by simp))
  |int j=>obtain⟨a,rfl⟩:=ry;exact eq_int (bC I q AF)
  |str j=>obtain⟨a,rfl⟩:=ry;exact PySem.EqMixed.eq_int_str (bC I q (by simp))
  |_=>exact q0N (show false=true from b) MW
 |str i=>
  obtain⟨t,rfl⟩:=rx;cases y with
  |non=>cases ry;exact PySem.EqNone.eq_str_none (bC I q (by simp))
  |bl j=>cases ry;exact PySem.EqMixed.eq_str_bool (bC I q (by simp))
  |int j=>obtain⟨a,rfl⟩:=ry;exact PySem.EqMixed.eq_str_int (bC I q (by simp))
  |str j=>obtain⟨a,rfl⟩:=ry;exact eq_str (bC I q AL)
  |_=>exact q0N (show false=true from b) MW
 |byt i=>
  obtain⟨t,rfl⟩:=rx;cases y with
  |byt j=>obtain⟨a,rfl⟩:=ry;exact PySem.W.eq_bytes (bC I q AX)
  |_=>exact q0N (show false=true from b) MW
 |_=>cases y<;>exact q0N (show false=true from b) MW
theorem nu:br X (compareOp .NotEq) Jn:=by
 intro pins s σ H x y v u Q I rx ry h;obtain⟨b,q⟩:=h;cases x with
 |non=>
  cases rx;cases y with
  |non=>cases ry;exact PySem.EqNone.ne_none_none (bC I q (by simp))
  |bl j=>cases ry;exact PySem.EqNone.ne_none_bool (bC I q (by simp))
  |int j=>obtain⟨a,rfl⟩:=ry;exact PySem.EqNone.ne_none_int (bC I q (by simp))
  |str j=>obtain⟨a,rfl⟩:=ry;exact PySem.EqNone.ne_none_str (bC I q (by simp))
  |_=>exact q0N (show false=true from b) MW
 |bl i=>
  cases rx;cases y with
  |non=>cases ry;exact PySem.EqNone.ne_bool_none (bC I q (by simp))
  |bl j=>cases ry;exact ne_bool (bC I q (q0O not EK))
  |str j=>obtain⟨a,rfl⟩:=ry;exact PySem.EqMixed.ne_bool_str (bC I q (by simp))
  |_=>exact q0N (show false=true from b) MW
 |int i=>
  obtain⟨t,rfl⟩:=rx;cases y with
  |non=>cases ry;exact PySem.EqNone.ne_int_none (bC I q (by simp))
  |int j=>obtain⟨a,rfl⟩:=ry;exact ne_int (bC I q (q0O not AF))
  |str j=>obtain⟨a,rfl⟩:=ry;exact PySem.EqMixed.ne_int_str (bC I q (by simp))
  |_=>exact q0N (show false=true from b) MW
 |str i=>
  obtain⟨t,rfl⟩:=rx;cases y with
  |non=>cases ry;exact PySem.EqNone.ne_str_none (bC I q (by simp))
  |bl j=>cases ry;exact PySem.EqMixed.ne_str_bool (bC I q (by simp))
  |int j=>obtain⟨a,rfl⟩:=ry;exact PySem.EqMixed.ne_str_int (bC I q (by simp))
  |str j=>obtain⟨a,rfl⟩:=ry;exact ne_str (bC I q (q0O not AL))
  |_=>exact q0N (show false=true from b) MW
 |byt i=>
  obtain⟨t,rfl⟩:=rx;cases y with
  |byt j=>obtain⟨a,rfl⟩:=ry;exact PySem.W.ne_bytes (bC I q (q0O not AX))
  |_=>exact q0N (show false=true from b) MW
 |_=>cases y<;>exact q0N (show false=true from b) MW
theorem pC:br X (compareOp .Lt) (BG λi j=>.bl (decide (i<j))):=GI λ_ _ _ _ _ _ _ q=>lt_int q
theorem mj:br X (compareOp .LtE) (BG λi j=>.bl (decide (i<=j))):=GI λ_ _ _ _ _ _ _ q=>le_int q
theorem jP:br X (compareOp .Gt) (BG λi j=>.bl (decide (j<i))):=GI λ_ _ _ _ _ _ _ q=>gt_int q
theorem GU:br X (compareOp .GtE) (BG λi j=>.bl (decide (j<=i))):=GI λ_ _ _ _ _ _ _ q=>ge_int q
theorem Cb:br X (compareOp .In) (λx y H Q=>∃i j,x=.str i/\y=.str j/\Q (.bl (!(Builtin.Str.occurrences j i 0 j.length 1).isEmpty)) H):=by
 intro pins s σ H x y v u Q I rx ry h;obtain⟨i,j,rfl,rfl,q⟩:=h;obtain⟨t,rfl⟩:=rx;obtain⟨t',rfl⟩:=ry;exact in_str (bC I q rfl)
theorem wG:br X (compareOp .Is) (λx y H Q=>y=.non/\Q (.bl (decide (x=.non))) H):=by
 intro pins s σ H x y v u Q I rx ry h;obtain⟨rfl,q⟩:=h;cases ry;refine is_none_gen (bC I q ?_);cases x<;>first
  | (cases rx;rfl)
  | (obtain⟨t,rfl⟩:=rx;rfl)
theorem uX:br X (compareOp .IsNot) (λx y H Q=>y=.non/\Q (.bl (!decide (x=.non))) H):=by
 intro pins s σ H x y v u Q I rx ry h;obtain⟨rfl,q⟩:=h;cases ry;refine isnot_none_gen (bC I q ?_);cases x<;>first
  | (cases rx;rfl)
  | (obtain⟨t,rfl⟩:=rx;rfl)
theorem vp:br X (compareOp .NotIn) (λx y H Q=>∃i j,x=.str i/\y=.str j/\Q (.bl (!(!(Builtin.Str.occurrences j i 0 j.length 1).isEmpty))) H):=by
 intro pins s σ H x y v u Q I rx ry h;obtain⟨i,j,rfl,rfl,q⟩:=h;obtain⟨t,rfl⟩:=rx;obtain⟨t',rfl⟩:=ry;exact notIn_str (bC I q rfl)
theorem aL(b:Expr){op:CmpOp}(h:autoParam (op≠.In) zz1._auto_1)(h2:autoParam (op≠.NotIn) zz1._auto_1):behindInMarks op b=false:=by
 have c:(op==CmpOp.In)=false:=by cases op<;>first | rfl | exact q0N rfl h
 have a:(op==CmpOp.NotIn)=false:=by cases op<;>first | rfl | exact q0N rfl h2
 cases b<;>simp[behindInMarks,c,a]
theorem gw{op:CmpOp}{r:R2}(ho:br X (compareOp op) r)(ha:PE X a ta)(hb:PE X b tb)(hm:behindInMarks op b=false):PE X (.Compare a [op] [b] pos) (Ii r ta tb):=by
 intro c s σ H Q I h;exact wpAny_Compare1 (Hf ha hb I h λv u e x y l k j g q=>ho c e σ l x y v u Q k j g q) hm
def wS(t:TE):TT:=λσ H Q=>t σ H λx H'=>∃k,x=.bl k/\Q k H'
theorem aH{op:CmpOp}{r:R2}(ho:br X (compareOp op) r)(ha:PE X a ta)(hb:PE X b tb)(hm:behindInMarks op b=false):PT X (.Compare a [op] [b] pos) (wS (Ii r ta tb)):=by
 intro g s σ H Q I h;refine wpAny_isTrue_Compare1 (bZ (ha g s σ H _ I h) λv l ⟨x,L,D,o,w⟩=>bZ (hb g l σ L _ D w) λu j ⟨y,J,C,n,q⟩=>
  bZ (ho g j σ J x y v u _ C o n q) λc s3 ⟨z,G,B,m,k,e,p⟩=>?_) hm
 subst e;cases m;exact wpAny_truthy_bool ⟨G,B,p⟩
def vw(r r':R2)(ta tb tc:TE):TE:=λσ H Q=>ta σ H λx H1=>tb σ H1 λy H2=>r x y H2 λz H3=>∃k,z=.bl k /\
 (if k=true then tc σ H3 λw' H4=>r' y w' H4 Q else Q (.bl false) H3)
theorem xE{op op':CmpOp}{r r':R2}(ho:br X (compareOp op) r)(ho':br X (compareOp op') r')(ha:PE X a ta)(hb:PE X b tb)(hc:PE X c tc)
  (hm:autoParam (lastMarks [op,op'] [b,c]=false) zz5._auto_1):PE X (.Compare a [op,op'] [b,c] pos) (vw r r' ta tb tc):=by
 intro g s σ H Q I h;refine Compare_chain (bZ (ha g s σ H _ I h) λv B ⟨x,Y,S,G,M⟩=>chain_link (bZ (hb g B σ Y _ S M) λu w ⟨y,U,R,j,L⟩=>
  bZ (ho g w σ U x y v u _ R G j L) λd q ⟨z,n,m,D,k,e,l⟩=>?_)) hm
 subst e;cases D;refine wpAny_truthy_bool ?_;cases k with
 |false=>exact ite_ff ⟨.bl false,n,m,rfl,l⟩
 |true=>exact ite_tt (chain_last (bZ (hc g q σ n _ m l) λw' p ⟨o,T,O,C,J⟩=>ho' g p σ T y o u w' Q O j C J))
theorem qI{op op':CmpOp}{r r':R2}(ho:br X (compareOp op) r)(ho':br X (compareOp op') r')(ha:PE X a ta)(hb:PE X b tb)(hc:PE X c tc)
  (hm:autoParam (lastMarks [op,op'] [b,c]=false) zz5._auto_1):PT X (.Compare a [op,op'] [b,c] pos) (wS (vw r r' ta tb tc)):=by
 intro g s σ H Q I h;refine isTrue_chain (bZ (ha g s σ H _ I h) λv B ⟨x,H1,I1,J,R⟩=>test_link (bZ (hb g B σ H1 _ I1 R) λu w ⟨y,H2,I2,j,O⟩=>
  bZ (ho g w σ H2 x y v u _ I2 J j O) λd q ⟨z,n,m,G,k,e,l⟩=>?_)) hm
 subst e;cases G;refine wpAny_truthy_bool ?_;cases k with
 |false=>
  obtain⟨k',U,S⟩:=l;cases U;exact ite_ff ⟨n,m,S⟩
 |true=>
  refine ite_tt (test_last (bZ (hc g q σ n _ m l) λw' p ⟨o,H4,Z,D,M⟩=>bZ (ho' g p σ H4 y o u w' _ Z j D M) λd' s5 ⟨z2,H5,Y,C,k2,T,L⟩=>?_));subst T;cases C;exact wpAny_truthy_bool ⟨H5,Y,L⟩
theorem rB:(sizeLine:Nat)<2 ^ 63:=by rw[q0R];decide
theorem jv:br X (binaryOp .Add) (λx y H Q=>∃i j,x=.str i/\y=.str j/\i.length+j.length<=sizeLine/\Q (.str (i++j)) H):=by
 intro pins s σ H x y v u Q I rx ry h;obtain⟨i,j,rfl,rfl,b,q⟩:=h;obtain⟨t,rfl⟩:=rx;obtain⟨a,rfl⟩:=ry;exact add_str (λa tk=>⟨.str (i++j),H,I.tok _,⟨_,rfl⟩,q⟩) b
theorem wY{x:V}{us:Nw}(r:bq [x] us):∃u,us=[u]/\bv x u:=by
 cases r with
 |cons r1 r2=>cases r2;exact⟨_,rfl,r1⟩
theorem IB{x y:V}{us:Nw}(r:bq [x,y] us):∃u w',us=[u,w']/\bv x u/\bv y w':=by
 cases r with
 |cons r1 r2=>
  cases r2 with
  |cons r3 r4=>cases r4;exact⟨_,_,rfl,r1,r3⟩
end
structure yz(h:Heap)(x dx C:Addr)(mA:Nz):Prop where
 obj:h.get? x=some (PySem.W.instObj C dx)
 ns:h.Ns1 dx mA
 ne:dx≠x
set_option tactic.hygienic true in
theorem uF{h:Heap}{mA:Nz}(n:h.Ns1 dx mA):∃od,h.get? dx=some od/\∀name,PySem.W.lookIn name od=some (mA name):=by
 obtain⟨o,es,ep,ho,hd,hk,_,hm⟩:=n;refine⟨o,ho,λname=>?_⟩;have e:=hm name;unfold nsFind findBy at e;rw[<- Array.find?_toList]at e;unfold PySem.W.lookIn;rw[hd];dsimp only
 split
 ·rename_i y q
  rw[q]at e;exact q0O some e
 ·rename_i q
  rw[q]at e;have a:es.toList.any (·.refKey)=false:=by
   rw[List.any_eq_false];intro y hy;obtain⟨z,t,hkey⟩:=hk y (Array.mem_toList_iff.mp hy);simp[DictEntry.refKey,hkey]
  have a':¬ es.toList.any (·.refKey)=true:=by rw[a];exact MW
  rw[q06 a'];exact q0O some e
theorem yz.look{mA:Nz}(I:yz h x dx C mA):∃od,PySem.W.InstAt h x (PySem.W.instObj C dx) C (some od)/\∀name,PySem.W.lookIn name od=some (mA name):=
 let ⟨od,ho,hl⟩:=uF I.ns
 ⟨od,⟨I.obj,rfl,rfl,ho⟩,hl⟩
section
variable {prog:NC}{w:NF}{A:NE}{E:Nq}{s:Nv}{K:Nr}{x dx C f:Addr}{mA:Nz}{name:Str}{v:Value}
theorem GA{expr:Bool}{Q:Nq}(X:K.In s.heap)(I:yz s.heap x dx C mA)(hg:PySem.W.plainGet K C name=true)(hh:PySem.W.hasDictIn K C=true)
  (ha:PySem.W.findIn K (.ref C) name=some none) (hv:mA name=some v) (hv':PySem.W.handedIn v=true) (h:Q v {s with toks:=s.toks+1}) :
  wpAny (model prog w) A (getAttr (.ref x) name expr) Q E s:=by
 obtain⟨od,J,a⟩:=I.look;exact PySem.W.get_value X J (PySem.W.plainGet_of hg).1 (PySem.W.findObj_own hh ha rfl (by rw[a,hv])) hv' h
theorem Ep{pl:Sem Bool}{Q:Value×List Value->Shared->Prop}(X:K.In s.heap)(I:yz s.heap x dx C mA)(hg:PySem.W.plainGet K C name=true)
  (hf:PySem.W.findIn K (.ref C) name=some (some (.ref f))) (ht:PySem.W.isFn K (.ref f)=true) (hv:mA name=none) (h:Q (.ref f,[.ref x]) s) :
  wpAny (model prog w) A (getMethod (.ref x) name pl) Q E s:=by
 obtain⟨a,J,b⟩:=I.look;exact PySem.W.method_fn X J (PySem.W.plainGet_of hg).1 (PySem.W.plainGet_of hg).2 hf (beq_iff_eq.mp ht) (by show(PySem.W.lookIn name a).map (·.isSome)=some false;rw[b,hv];rfl) h
theorem FD{Q:Unit->Shared->Prop}(X:K.In s.heap)(I:yz s.heap x dx C mA)
  (hs:PySem.W.findIn K (.ref C) "__setattr__"=some (some (.builtin "object.__setattr__"))) (hp:PySem.W.plainOver K C=true) (ht:PySem.W.takerIn K C name=some none) (hh:PySem.W.hasDictIn K C=true)
  (hw:PySem.Within mA ns) (hsz:ns.length<=sizeLine)
  (h:∀h',yz h' x dx C (λy=>if y=name then some v else mA y)->Heap.SameBut dx s.heap h'->Q () {s with heap:=h',toks:=s.toks+2}) :
  wpAny (model prog w) A (setAttr (.ref x) name v) Q E s:=by
 obtain⟨od,J,hl⟩:=I.look;refine PySem.W.set_plain X J hs (PySem.W.osa_open (s:={s with toks:=s.toks+1}) (r:=none) X J hp ht λb=>?_);obtain⟨cd,n,k⟩:=PySem.W.any_some hh;have m:s.heap.get? x=some ⟨.ref C,some dx,.plain,#[]⟩:=I.obj;refine q04 (q05 (q04 (q04 (wpAny_loadPart m (q04 (PySem.W.Looks.here (s:={s with toks:=s.toks+1}) (PySem.W.looks_clsIn X n) ?_))))));rw[k];refine q05 (a:=some dx) (q04 (q05 (q04 ?_)));refine wpAny_nsSet1 (s:={s with toks:=s.toks+1}) I.ns λh' e c=>?_;obtain⟨oD,esD,epD,g,j,l⟩:=e.count (PySem.Within.cons name v hw);refine q04 (wpAny_lookBehind g (by rw[j];exact pastItsLine_dict (M5 l (by rw[MI];omega))) ?_);exact q05 (h _ ⟨(c.2 _ (Ne.symm I.ne)).trans I.obj,e,I.ne⟩ c)
theorem D1{R:Result->Shared->Prop}{vs:Nw}{kw:List (Str×Value)}(X:K.In s.heap)(hm:PySem.W.makesIn K C=true)
  (hi:PySem.W.findIn K (.ref C) "__init__"=some (some (.ref f))) (hf:PySem.W.typeIn K (.ref f)=some (.type "function"))
  (h:codeAny (model prog w) (A.under (.builtin "type.__call__" ⟨.ref C::vs,kw⟩)) (.call (.ref f) ⟨.ref (s.heap.objs.size+1)::vs,kw⟩) (PySem.W.InitBack (s.heap.objs.size+1) R)
   {s with heap:=(s.heap.push PySem.W.emptyDict).push (PySem.W.instObj C s.heap.objs.size)}) :
  codeAny (model prog w) A (.call (.ref C) ⟨vs,kw⟩) R s:=by
 obtain⟨hh,g,d,t,os⟩:=s;exact PySem.W.make_core (PySem.W.makes_of X hm) (PySem.W.looks_findIn X hi) (λa=>PySem.W.bind_fn X a hf) (.inl rfl) h
end
def cV(f:Str)(v:V):List (Str×V)->List (Str×V)
 | []=>[(f,v)]
 | (g,x)::r=>if g=f then(g,v)::r else(g,x)::cV f v r
theorem pK(f g:Str)(v:V):∀fs:List (Str×V),(cV f v fs).lookup g=if g=f then some v else fs.lookup g
 | []=>by
  show List.lookup g [(f,v)]=_
  by_cases h:g=f
  ·have hb:(g==f)=true:=beq_iff_eq.mpr h
   simp only[List.lookup,hb,q07 h]
  ·have hb:(g==f)=false:=beq_eq_false_iff_ne.mpr h
   simp only[List.lookup,hb,q06 h]
 | (k,x)::r=>by
  have ih:=pK f g v r;rw[show cV f v ((k,x)::r)=(if k=f then(k,v)::r else(k,x)::cV f v r) from rfl]
  by_cases hk:k=f
  ·rw[q07 hk]
   by_cases h:g=k
   ·have hb:(g==k)=true:=beq_iff_eq.mpr h
    simp only[List.lookup,hb,q07 (h.trans hk)]
   ·have hb:(g==k)=false:=beq_eq_false_iff_ne.mpr h
    simp only[List.lookup,hb,q06 (λe:g=f=>h (e.trans hk.symm))]
  ·rw[q06 hk]
   by_cases h:g=k
   ·have hb:(g==k)=true:=beq_iff_eq.mpr h
    simp only[List.lookup,hb,q06 (λe:g=f=>hk (h.symm.trans e))]
   ·have hb:(g==k)=false:=beq_eq_false_iff_ne.mpr h
    simp only[List.lookup,hb];exact ih
theorem oY(f:Str)(v:V):∀fs:List (Str×V),f∈(cV f v fs).map (·.1)/\∀g,g∈fs.map (·.1)->g∈(cV f v fs).map (·.1)
 | []=>⟨by simp[cV],λg h=>by simp at h⟩
 | (k,x)::r=>by
  obtain⟨i1,i2⟩:=oY f v r;rw[show cV f v ((k,x)::r)=(if k=f then(k,v)::r else(k,x)::cV f v r) from rfl]
  by_cases hk:k=f
  ·rw[q07 hk]
   subst hk;exact⟨by simp,λg h=>by simpa using h⟩
  ·rw[q06 hk]
   refine⟨?_,λg h=>?_⟩
   ·rw[M4]
    exact MN _ i1
   ·rw[M4]at h ⊢
    rcases MM.mp h with e | e
    ·exact MM.mpr (.inl e)
    ·exact MN _ (i2 g e)
theorem dJ(f:Str)(v:V):∀fs:List (Str×V),(cV f v fs).length<=fs.length+1
 | []=>by simp[cV]
 | (k,x)::r=>by
  have ih:=dJ f v r;rw[show cV f v ((k,x)::r)=(if k=f then(k,v)::r else(k,x)::cV f v r) from rfl]
  by_cases hk:k=f
  ·rw[q07 hk,MI,MI];omega
  ·rw[q06 hk,MI,MI];omega
theorem kX.some_of{v:V}{o:Option Value}(r:kX (some v) o):∃u,o=some u/\bv v u:=by
 cases o with
 |none=>exact(show False from r).elim
 |some u=>exact⟨u,rfl,r⟩
theorem kX.none_of(r:kX none o):o=none:=by
 cases o with
 |none=>rfl
 |some u=>exact(show False from r).elim
theorem Bd(r:bv v u):PySem.W.handedIn u=true:=by
 cases v with
 |non=>cases(show u=Value.none from r);rfl
 |bl b=>cases(show u=Value.bool b from r);rfl
 |int i=>obtain⟨t,e⟩:=(show ∃t,u=Value.int i t from r);cases e;rfl
 |str x=>obtain⟨t,e⟩:=(show ∃t,u=Value.str x t from r);cases e;rfl
 |byt b=>obtain⟨t,e⟩:=(show ∃t,u=Value.bytes b t from r);cases e;rfl
 |flt b=>obtain⟨t,e⟩:=(show ∃t,u=Value.float b t from r);cases e;rfl
 |ref a=>cases(show u=Value.ref a from r);rfl
 |ty n=>cases(show u=Value.type n from r);rfl
section
variable {P:NC}{w:NF}{H H':Hp}{h h':Heap}{a C dx:Addr}{fs fs':List (Str×V)}
theorem qz(hok:ly P w H h)(e:H a=some (.ins C dx fs)):∃mA,yz h a dx C mA/\(∀f,kX (fs.lookup f) (mA f))/\PySem.Within mA (fs.map (·.1))/\fs.length<=1000/\H dx=some (.own a):=by
 obtain⟨d,z,ne,b,mA,n,r,q⟩:=(show bQ P w H h a (.ins C dx fs) from hok a _ e);exact⟨mA,⟨b,n,ne⟩,r,q,z,d⟩
end
structure m8(K:Nr)(C:Addr):Prop where
 pg:PySem.W.plainGet K C Str.empty=true
 hd:PySem.W.hasDictIn K C=true
 po:PySem.W.plainOver K C=true
 sa:PySem.W.findIn K (.ref C) "__setattr__"=some (some (.builtin "object.__setattr__"))
theorem m8.get{K:Nr}(c:m8 K C)(f:Str):PySem.W.plainGet K C f=true:=c.pg
def av(K:Nr)(C:Addr)(f:Str):Prop:=PySem.W.findIn K (.ref C) f=some none
theorem av.taker{K:Nr}{f:Str}(n:av K C f):PySem.W.takerIn K C f=some none:=by
 unfold PySem.W.takerIn;rw[show PySem.W.findIn K (.ref C) f=some none from n]
 rfl
structure c_(K:Nr)(C:Addr)(m:Str)(f:Addr):Prop where
 at_:PySem.W.findIn K (.ref C) m=some (some (.ref f))
 fn:PySem.W.isFn K (.ref f)=true
 kp:PySem.W.keepIn K (.ref f)=true
section
variable {X:Cx}{pins:Nt}{σ:St}{H:Hp}{s:Nv}{a C dx:Addr}{fs:List (Str×V)}{f:Str}{v:V}{A:NE}{E:Nq}
theorem zh{Q:Nq}(I:Inv X pins σ H s)(e:H a=some (.ins C dx fs))(c:m8 X.K C)(n:av X.K C f)(l:fs.lookup f=some v)
  (h:∀u s',Inv X pins σ H s'->bv v u->Q u s'):wpAny (model X.prog X.w) A (getAttr (.ref a) f b) Q E s:=by
 obtain⟨j,O,r,_,_,_⟩:=qz I.hok e;obtain⟨u,k,g⟩:=kX.some_of (v:=v) (o:=j f) (by rw[<- l];exact r f);exact GA I.kIn O (c.get f) c.hd n k (Bd g) (h u _ (I.tok _) g)
theorem g_{pl:Sem Bool}{Q:Value×List Value->Shared->Prop}(I:Inv X pins σ H s)(e:H a=some (.ins C dx fs))(c:m8 X.K C)(k:c_ X.K C m g)(l:fs.lookup m=none)
  (h:Q (.ref g,[.ref a]) s):wpAny (model X.prog X.w) A (getMethod (.ref a) m pl) Q E s:=by
 obtain⟨b,O,r,_,_,_⟩:=qz I.hok e;have j:b m=none:=kX.none_of (by rw[<- l];exact r m);exact Ep I.kIn O (c.get m) k.at_ k.fn j h
theorem y6{Q:Unit->Shared->Prop}(I:Inv X pins σ H s)(e:H a=some (.ins C dx fs))(c:m8 X.K C)(n:av X.K C f)(hl:fs.length<1000)(ry:bv y u)
  (h:∀s',Inv X pins σ (aC H a (.ins C dx (cV f y fs))) s'->Q () s'):wpAny (model X.prog X.w) A (setAttr (.ref a) f u) Q E s:=by
 obtain⟨l,O,r,k,_,m⟩:=qz I.hok e;have v:(fs.map (·.1)).length<=sizeLine:=by rw[My,q0R];omega
 refine FD I.kIn O c.sa c.po n.taker c.hd k v λD j p=>h _ ?_;have hd:∃o,D.get? dx=some o:=let ⟨o,_,_,e',_⟩:=j.ns;⟨o,e'⟩
 refine I.write (x:=a) (e:=dx) (by rw[e];exact True.intro) (.inr m) (λb q B z=>(p.2 b B).trans z) hd ?_;refine⟨by rw[aq O.ne];exact m,?_,O.ne,j.obj,_,j.ns,λg=>?_,λg w=>?_⟩
 ·have:=dJ f y fs;omega
 ·show kX ((cV f y fs).lookup g) (if g=f then some u else l g)
  rw[pK]
  by_cases q:g=f
  ·rw[q07 q,q07 q];exact ry
  ·rw[q06 q,q06 q];exact r g
 ·by_cases q:g=f
  ·rw[q];exact(oY f y fs).1
  ·refine(oY f y fs).2 g (k g λz=>w ?_)
   show(if g=f then some u else l g)=none;rw[q06 q];exact z
theorem Inv.made(I:Inv X pins σ H s):Inv X pins σ (aC (aC H s.heap.objs.size (.own (s.heap.objs.size+1))) (s.heap.objs.size+1) (.ins C s.heap.objs.size []))
  {s with heap:=(s.heap.push PySem.W.emptyDict).push (PySem.W.instObj C s.heap.objs.size)}:=by
 have c:(s.heap.push PySem.W.emptyDict).get? s.heap.objs.size=some PySem.W.emptyDict:=MD s.heap rfl;have l:((s.heap.push PySem.W.emptyDict).push (PySem.W.instObj C s.heap.objs.size)).get? (s.heap.objs.size+1)=some (PySem.W.instObj C s.heap.objs.size):=by
  have:=MD (s.heap.push PySem.W.emptyDict) (o:=PySem.W.instObj C s.heap.objs.size) rfl
  rwa [Heap.size_push]at this
 have k:(s.heap.push PySem.W.emptyDict).Ns s.heap.objs.size (λ_=>none):=⟨PySem.W.emptyDict,#[],_,c,rfl,(λe j=>q0N j (by simp)),λ_=>rfl⟩;have m:=I.laid (a:=s.heap.objs.size) (o:=.own (s.heap.objs.size+1)) (h':=s.heap.push PySem.W.emptyDict) (t':=s.toks) (λb u q=>Mx _ q) (MU _) ⟨_,c⟩;refine m.laid (a:=s.heap.objs.size+1) (o:=.ins C s.heap.objs.size []) (t':=s.toks) (λb u q=>Mx _ q) (Nat.le_of_eq (Heap.size_push _ _)) ?_;have ne:s.heap.objs.size≠s.heap.objs.size+1:=MQ (M7 _);refine⟨by rw[aq ne,ad],MV _,ne,l,λ_=>none,(Heap.Ns1.of_empty k).at λo q=>Mx _ q,λ_=>True.intro,λy g=>q0N rfl g⟩
theorem F8{prog:NC}{env:Env}{f:Str}{pos:Pos}{Q:Nq}(hb:attributeBase e f env (eval e env)=eval e env)
  (h:wpAny (model prog w) A (eval e env) (λo s₁=>wpAny (model prog w) A (getAttr o f true) Q E s₁) E s):wpAny (model prog w) A (eval (.Attribute e f pos) env) Q E s:=
 Attribute_any_ h (by rw[arm_eval_Attribute,hb])
end
def F7(K:Nr)(ta:TE)(f:Str):TE:=λσ H Q=>ta σ H λx H1=>∃a C dx fs v,x=.ref a/\H1 a=some (.ins C dx fs)/\m8 K C/\av K C f/\fs.lookup f=some v/\Q v H1
def Hr(K:Nr)(ta tv:TE)(f:Str):TS:=λD σ H=>tv σ H λy H1=>ta σ H1 λx H2=>∃a C dx fs,x=.ref a/\H2 a=some (.ins C dx fs)/\m8 K C/\av K C f/\fs.length<1000 /\
 D.nx σ (aC H2 a (.ins C dx (cV f y fs)))
section
variable {X:Cx}{o e value:Expr}{f:Str}{pos pos' tpos:Pos}{ta tv:TE}
theorem bN(he:PE X e ta)(hb:attributeBase e f X.env (eval e X.env)=eval e X.env):PE X (.Attribute e f pos) (F7 X.K ta f):=by
 intro b s σ H Q I h;refine F8 hb (bZ (he b s σ H _ I h) λu s1 ⟨x,r,p,g,a,C,dx,fs,v,k,m,c,n,l,q⟩=>?_);subst k;obtain rfl:u=Value.ref a:=g;exact zh p m c n l λu' s2 o j=>⟨v,r,o,j,q⟩
theorem dC(ha:PE X o ta)(hv:PE X value tv)(hs:swapsWith value (some (.Attribute o f pos')) pos.line X.env=pure false):PS X (.Assign [.Attribute o f pos'] value pos) (Hr X.K ta tv f):=by
 intro b s σ H D I h;refine plainObj_wpAny_Assign_Attribute (bZ (hv b s σ H _ I h) λu e ⟨y,B,w,g,q⟩=>bZ (ha b e σ B _ w q) λov s2 ⟨x,H2,v,j,a,C,dx,fs,m,p,c,n,l,k⟩=>?_) hs;subst m;obtain rfl:ov=Value.ref a:=j;exact y6 v p c n l g λs3 r=>⟨σ,_,r,k⟩
end
section
variable {X:Cx}{pins:Nt}{σ:St}{H:Hp}{s:Nv}{A:NE}{E:Nq}{Q:Nq}{c:Value}{b:Bool}
inductive je(K:Nr)(H:Hp):V->Value->Prop where
 |non:je K H .non (.type "NoneType")
 |bl (x:Bool):je K H (.bl x) (.type "bool")
 |int (i:Int):je K H (.int i) (.type "int")
 |str (x:Str):je K H (.str x) (.type "str")
 |flt (x:UInt64):je K H (.flt x) (.type "float")
 |lst {a:Addr} {xs:List V} (e:H a=some (.lst xs)):je K H (.ref a) (.type "list")
 |frz {a:Addr} {o:Obj} {xs:List V} (e:H a=some (.frz o (.lst xs))):je K H (.ref a) (.type "list")
 |tup {a:Addr} {xs:List V} (e:H a=some (.tup xs)):je K H (.ref a) (.type "tuple")
 |dK {a:Addr} {kvs:List (dm×V)} (e:H a=some (.dK kvs)):je K H (.ref a) (.type "dict")
 |dT {a:Addr} {kvs:List (List dm×V)} (e:H a=some (.dT kvs)):je K H (.ref a) (.type "dict")
 |ins {a C dx:Addr} {fs:List (Str×V)} (e:H a=some (.ins C dx fs)) (cl:m8 K C) (ha:PySem.W.findIn K (.ref C) "__class__"=some (some (.builtin "object.__class__")))
   (hn:PySem.W.specialIn K (.builtin "object.__class__") "__get__"=some (some (.builtin "getset_descriptor.__get__"))) (htk:PySem.W.takesIn K (.builtin "object.__class__")=some true)
   (hm:PySem.W.mroIn K C (.type "object")=some true):je K H (.ref a) (.ref C)
theorem Db{t:Value}(I:Inv X pins σ H s)(rx:bv x u)(ty:je X.K H x t)(e:PySem.W.kitOne X.K t c=some b)(h:∀tk,Q (.bool b) {s with toks:=tk}) :
  wpAny (model X.prog X.w) A (call (.builtin "isinstance") [u,c]) Q E s:=by
 cases ty with
 |non=>cases(show u=Value.none from rx);exact PySem.W.kia_one PySem.W.kitx_none I.kIn True.intro e (λz=>nomatch z) h
 |bl y=>cases(show u=Value.bool y from rx);exact PySem.W.kia_one PySem.W.kitx_bool I.kIn True.intro e (λz=>nomatch z) h
 |int i=>obtain⟨t,q⟩:=(show ∃t,u=Value.int i t from rx);cases q;exact PySem.W.kia_one PySem.W.kitx_int I.kIn True.intro e (λz=>nomatch z) h
 |str y=>obtain⟨t,q⟩:=(show ∃t,u=Value.str y t from rx);cases q;exact PySem.W.kia_one PySem.W.kitx_str I.kIn True.intro e (λz=>nomatch z) h
 |flt y=>obtain⟨t,q⟩:=(show ∃t,u=Value.float y t from rx);cases q;exact PySem.W.kia_one PySem.W.kitx_float I.kIn True.intro e (λz=>nomatch z) h
 | @lst a g ea=>
  cases(show u=Value.ref a from rx);obtain⟨_,_,n,_,h1⟩:=(show bQ X.prog X.w H s.heap a (.lst g) from I.hok a _ ea);exact PySem.W.kia_one PySem.W.kitx_list I.kIn ⟨_,h1,rfl⟩ e (λz=>nomatch z) h
 | @frz a ob g ea=>
  cases(show u=Value.ref a from rx);obtain⟨_,_,_,n,_,h1⟩:=(show bQ X.prog X.w H s.heap a (.frz ob (.lst g)) from I.hok a _ ea);exact PySem.W.kia_one PySem.W.kitx_list I.kIn ⟨_,h1,rfl⟩ e (λz=>nomatch z) h
 | @tup a g ea=>
  cases(show u=Value.ref a from rx);obtain⟨_,_,_,p⟩:=(show bQ X.prog X.w H s.heap a (.tup g) from I.hok a _ ea);obtain⟨o,h1,h2,_⟩:=p;exact PySem.W.kia_one PySem.W.kitx_tuple I.kIn ⟨o,h1,h2⟩ e (λz=>nomatch z) h
 | @dK a kvs ea=>
  cases(show u=Value.ref a from rx);obtain⟨_,_,vs,_,p⟩:=(show bQ X.prog X.w H s.heap a (.dK kvs) from I.hok a _ ea);obtain⟨o,j,k,h1,h2,_⟩:=p;exact PySem.W.kia_one PySem.W.kitx_dict I.kIn ⟨o,h1,h2.1⟩ e (λz=>nomatch z) h
 | @dT a kvs ea=>
  cases(show u=Value.ref a from rx);obtain⟨_,_,g,_,o,j,k,h1,h2,_⟩:=(show bQ X.prog X.w H s.heap a (.dT kvs) from I.hok a _ ea);exact PySem.W.kia_one PySem.W.kitx_dict I.kIn ⟨o,h1,h2.1⟩ e (λz=>nomatch z) h
 | @ins a C dx fs ea cl ha hn htk hm=>
  cases(show u=Value.ref a from rx);obtain⟨mA,O,_⟩:=qz I.hok ea;obtain⟨od,J,_⟩:=O.look;exact PySem.W.kia_one (PySem.W.kitx_own (cl.get _) cl.hd ha hn htk hm) I.kIn J e (λz=>nomatch z) h
end
structure dv(k:Nat)(A:NE):Prop where
 hd:A.handled=none
 dp:A.depth+3*k+5<recursionLimit
 un:A.units+16*k+200<cLine
theorem dv.mono{j:Nat}(r:dv k A)(h:j<=k):dv j A:=⟨r.hd,by have:=r.dp;omega,by have:=r.un;omega⟩
theorem dv.deeper{k:Nat}{A:NE}(r:dv (k+1) A)(env:Env):dv k (A.deeper env):=
 ⟨r.hd,by have:=r.dp;show A.depth+1+3*k+5<_;omega,by have:=r.un;show A.units+3+16*k+200<_;omega⟩
theorem y9{A:NE}{C:Addr}{us:Nw}{kw:List (Str×Value)}:(A.under (.builtin "type.__call__" ⟨.ref C::us,kw⟩)).depth=A.depth+1:=by
 first | rfl | simp[Around.under,Code.weight,Code.isCreation,Code.isGuard,Code.isCaller,Code.frames,Code.isFrame,guardIds]
theorem yq{A:NE}{C:Addr}{us:Nw}{kw:List (Str×Value)}:(A.under (.builtin "type.__call__" ⟨.ref C::us,kw⟩)).units=A.units+1:=by
 first | rfl | simp[Around.under,Code.cUnits,Code.frames,Code.isFrame]
theorem dv.make{k:Nat}{A:NE}(r:dv (k+1) A)(C:Addr)(us:Nw)(kw:List (Str×Value)):dv k (A.under (.builtin "type.__call__" ⟨.ref C::us,kw⟩)):=
 ⟨r.hd,by have:=r.dp;rw[y9];omega,by have:=r.un;rw[yq];omega⟩
theorem dv.depth(r:dv k A):A.depth<recursionLimit:=by have:=r.dp;omega
theorem dv.units(r:dv k A):A.units+64<cLine:=by have:=r.un;omega
def vR:TA:=λ_ H Q=>Q [] H
def r_(ta:TE)(tr:TA):TA:=λσ H Q=>ta σ H λx H1=>tr σ H1 λxs H2=>Q (x::xs) H2
section
variable {X:Cx}{e:Expr}{es:NH}{te:TE}{t:TA}{pos:Pos}
theorem ac:PA X [] vR:=λ_ _ _ _ H Q I h=>Calls.spliced_nil ⟨[],H,I,.nil,h⟩
theorem aa(ha:PE X e te)(hr:PA X es t)(hs:autoParam (starEach (e::es) X.env=(false,eval e X.env)::starEach es X.env) zz0._auto_1):PA X (e::es) (r_ te t):=by
 intro b a s σ H Q I h;rw[hs];show wpAny _ _ (spliced ((false,eval e X.env)::backTo b (starEach es X.env))) _ _ s;refine Calls.spliced_cons (bZ (ha a s σ H _ I h) λu g ⟨x,q,o,k,m⟩=>?_);exact bZ (hr b a g σ q _ o m) λus s2 ⟨c,p,n,j,l⟩=>⟨x::c,p,n,.cons k j,l⟩
def HR(t:TA):TE:=λσ H Q=>t σ H λxs H1=>xs.length<=sizeLine/\∀p,H1 p=none->Q (.ref p) (aC H1 p (.tup xs))
def FW(t:TA):TE:=λσ H Q=>t σ H λxs H1=>xs.length<=sizeLine/\∀p,H1 p=none->Q (.ref p) (aC H1 p (.lst xs))
theorem aQ{x1}(h:PA X es t):PE X (.Tuple es x1 pos) (HR t):=by
 intro a s σ H Q I hq;refine wpAny_Tuple_spliced (bZ (h pos a s σ H _ I hq) λus c ⟨k,j,g,r,z,q⟩=>⟨by rw[<- r.length];exact z,?_⟩);have l:j c.heap.objs.size=none:=g.hok.fresh (MU _);refine⟨.ref c.heap.objs.size,aC j c.heap.objs.size (.tup k),g.laid (t':=c.toks) (λb u e=>Mx _ e) (MU _) ?_,rfl,q _ l⟩;exact⟨z,us,r,⟨_,MD _ rfl,rfl,_,rfl⟩⟩
theorem bz(h:PA X es t):PE X (.List es pos) (FW t):=by
 intro a s σ H Q I hq;refine wpAny_List_spliced (bZ (h pos a s σ H _ I hq) λus c ⟨k,j,g,r,z,q⟩=>⟨by rw[<- r.length];exact z,?_⟩);have l:j c.heap.objs.size=none:=g.hok.fresh (MU _);refine⟨.ref c.heap.objs.size,aC j c.heap.objs.size (.lst k),g.laid (t':=c.toks) (λb u e=>Mx _ e) (MU _) ?_,rfl,q _ l⟩;exact⟨z,us,0,r,MD _ rfl⟩
end
abbrev Sp:=List V->Hp->VK->XK->Prop
abbrev kc:=List Env->Hp->Shared->XK->Value->Shared->Prop
structure yl(P:NC)(w:NF)(K:Nr)(mg:Nz)(base:Heap)(A:NE)(outer:List Env)(s:Nv)(H:Hp):Prop where
 frames:A.frames=some outer
 mod:Mod K mg base
 bs:∀b o,base.get? b=some o->s.heap.get? b=some o/\H b=none
 bsz:base.objs.size<=s.heap.objs.size
 funs:s.heap.FunFrames base outer
 frf:∀b∈l5 outer,H b=none
 hok:ly P w H s.heap
 bare:AllBare s.gens
def CE(outer:List Env)(P:NC)(w:NF)(H:Hp)(s:Nv)(Q:VK)(u:Value)(s':Nv):Prop:=
 ∃v H',s'.os=s.os/\AllBare s'.gens/\Un (l5 outer) [] H H' s.heap s'.heap/\ly P w H' s'.heap/\bv v u/\Q v H'
def CR(CX:kc)(outer:List Env)(P:NC)(w:NF)(H:Hp)(s:Nv)(Q:VK)(E:XK)(r:Result)(s':Nv):Prop:=
 match r with
 | .ok (.ret u)=>CE outer P w H s Q u s'
 | .ok _=>False
 | .error e=>CX outer H s E e s'
structure aY(P:NC)(w:NF)(K:Nr)(mg:Nz)(base:Heap)(CX:kc)(k:Nat)(f:Addr)(fd:NA)(ps:ND)(sp:Sp):Prop where
 len:∀vs H Q E,sp vs H Q E->vs.length=ps.length
 run:∀(A:NE) (outer:List Env) (s:Nv) (H:Hp) (args:Args) (us:Nw) (vs:List V) (Q:VK) (E:XK),dv k A->yl P w K mg base A outer s H->BindsTo s fd args (ps.zip us)->bq vs us->sp vs H Q E ->
  codeAny (model P w) A (.call (.ref f) args) (CR CX outer P w H s Q E) s
theorem aY.mono{K:Nr}{mg:Nz}{base:Heap}{CX:kc}{k:Nat}{f:Addr}{ps:ND}{sp:Sp}(F:aY P w K mg base CX j f fd ps sp)(h:j<=k) :
  aY P w K mg base CX k f fd ps sp:=⟨F.len,λA outer s H args us vs Q E hr=>F.run A outer s H args us vs Q E (hr.mono h)⟩
theorem yl.make{K:Nr}{mg:Nz}{base:Heap}{outer:List Env}(e:yl P w K mg base A outer s H)(C:Addr)(us:Nw)(kw:List (Str×Value)) :
  yl P w K mg base (A.under (.builtin "type.__call__" ⟨.ref C::us,kw⟩)) outer s H:=⟨by first | exact e.frames | (simpa[Around.under,Code.envs,Code.isFrame,pushEnvs]using e.frames),e.mod,e.bs,e.bsz,e.funs,e.frf,e.hok,e.bare⟩
section
variable {X:Cx}{pins:Nt}{σ:St}{H:Hp}{s s':Nv}
theorem Inv.env0(I:Inv X pins σ H s):yl X.prog X.w X.K X.mg X.base X.A X.stack s H:=
 ⟨I.ok.frames,I.ok.mod,I.bs,M5 I.ok.bsz I.sz,I.stack,I.stkFree,I.hok,I.bare⟩
theorem Inv.after(I:Inv X pins σ H s)(h:CE X.stack X.prog X.w H s Q u s'):EP X pins σ Q u s':=by
 obtain⟨v,k,os,a,un,e,r,q⟩:=h;obtain⟨j,g,d,t,c⟩:=s';obtain rfl:c=s.os:=os;exact⟨v,k,I.call (h':=j) (g':=g) (d':=d) (t':=t) (ch:=[]) un e a (λb z=>q0N z (by simp)),r,q⟩
end
def pO(sp:Sp)(dvs:List V)(E:XK)(t:TA):TE:=λσ H Q=>t σ H λvs H1=>sp (vs++dvs) H1 Q E
def tU(C:Addr)(m:Str)(sp:Sp)(dvs:List V)(E:XK)(ta:TE)(t:TA):TE:=λσ H Q=>ta σ H λx H1=>∃a dx fs,x=.ref a/\H1 a=some (.ins C dx fs)/\fs.lookup m=none /\
 t σ H1 λvs H2=>sp (x::(vs++dvs)) H2 Q E
def AQ(C:Addr)(sp:Sp)(dvs:List V)(E:XK)(t:TA):TE:=λσ H Q=>t σ H λvs H1=>∀x dx,H1 x=none->H1 dx=none->dx≠x ->
 sp (.ref x::(vs++dvs)) (aC (aC H1 dx (.own x)) x (.ins C dx [])) (λv H2=>v=.non/\Q (.ref x) H2) E
def bU(K:Nr)(fd:NA)(ps:ND)(ds:Nw):Prop:=
 ∀(s:Nv) (us:Nw),K.In s.heap->(us++ds).length=ps.length->BindsTo s fd ⟨us,[]⟩ (ps.zip (us++ds))
theorem bU.all{K:Nr}{ps:ND}(h:∀us:List Value,us.length=ps.length->bindArgs fd ⟨us,[]⟩=pure (ps.zip us)):bU K fd ps []:=λs us _ hl=>by
 rw[M8]at hl ⊢;exact .of_eq (h us hl)
def dB(CX:kc)(X:Cx)(E:XK):Prop:=∀(pins:Nt) (σ:St) (H:Hp) (s:Nv) (e:Value) (s':Nv),Inv X pins σ H s->CX X.stack H s E e s'->X.xe e s'
section
variable {X:Cx}{CX:kc}{k:Nat}{f C:Addr}{fd:NA}{ps:ND}{sp:Sp}{dvs:List V}{ds:Nw}{E:XK}{x m:Str}{p pos apos:Pos}{e o:Expr}{es:NH}{ta:TE}{t:TA}
theorem oA{pins:Nt}{σ:St}(F:aY X.prog X.w X.K X.mg X.base CX k f fd ps sp)(hr:dv k X.A)(hb:bU X.K fd ps ds)(hd:bq dvs ds)(hx:dB CX X E)
  (I:Inv X pins σ H s) (r:bq vs us) (h:sp (vs++dvs) H Q E):wpAny (model X.prog X.w) X.A (call (.ref f) us) (EP X pins σ Q) X.xe s:=by
 have b:bq (vs++dvs) (us++ds):=r.append hd;have g:(us++ds).length=ps.length:=by rw[<- b.length];exact F.len _ _ _ _ h
 refine wpAny_call (codeAny_mono (F.run X.A X.stack s H ⟨us,[]⟩ (us++ds) (vs++dvs) Q E hr I.env0 (hb s us I.kIn g) b h) λr c a=>?_);cases r with
 |error e=>exact hx pins σ H s e c I a
 |ok fl=>
  cases fl with
  |ret u=>exact I.after a
  |next=>exact False.elim a
  |brk=>exact False.elim a
  |cont=>exact False.elim a
theorem FF(F:aY X.prog X.w X.K X.mg X.base CX k f fd ps sp)(hr:dv k X.A)(hg:Gl X x)(hm:X.mg x=some (.ref f))(hk:PySem.W.keepIn X.K (.ref f)=true)(hb:bU X.K fd ps ds)(hd:bq dvs ds)(hx:dB CX X E)
  (ha:PA X (e::es) t) (hdb:autoParam ((x==("__debug__":Str))=false) zz1._auto_1) (he:autoParam (starEach (e::es) X.env=(false,eval e X.env)::starEach es X.env) zz0._auto_1) (hpl:autoParam ((backTo pos (starEach es X.env)).any (·.1)=false) zz0._auto_1) :
  PE X (.Call (.Name x p) (e::es) [] pos) (pO sp dvs E t):=by
 intro a s σ H Q I h;refine wpAny_Call_Name_kw (ig I hg hm ?_ hdb);refine PySem.W.callWith_K (h₀:=X.base) I.ok.mod.kin hk (bZ (ha pos a s σ H _ I h) λus s1 ⟨vs,H1,b,r,q⟩=>⟨b.kIn,?_⟩) he hpl;exact oA F hr hb hd hx b r q
theorem FZ{pl:Sem Bool}(he:PE X o ta)(c:m8 X.K C)(hm:c_ X.K C m f)(F:aY X.prog X.w X.K X.mg X.base CX k f fd ps sp)(hr:dv k X.A)(hb:bU X.K fd ps ds)(hd:bq dvs ds)(hx:dB CX X E)(ha:PA X (e::es) t)
  (hst:autoParam (starEach (e::es) X.env=(false,eval e X.env)::starEach es X.env) zz0._auto_1) (hpl:autoParam ((backTo pos (starEach es X.env)).any (·.1)=false) zz0._auto_1)
  (ht:autoParam (eval (.Call (.Attribute o m apos) (e::es) [] pos) X.env=(do
   let ov <- eval o X.env
   standAt apos.atName
   let (f,first) <- holding [ov] (getMethod ov m pl)
   callWith pos f first (backTo pos (starEach (e::es) X.env)) (backToKw pos (keywordEach [] X.env)))) zz0._auto_1) :
  PE X (.Call (.Attribute o m apos) (e::es) [] pos) (tU C m sp dvs E ta t):=by
 intro b s σ H Q I h;refine PySem.W.methodCall_KW (pl:=pl) (bZ (he b s σ H _ I h) λu n ⟨x,B,j,p,a,dx,fs,w,y,l,q⟩=>?_) ht;subst w;obtain rfl:u=Value.ref a:=p;refine g_ j y c hm l ?_;refine PySem.W.callWith_K (first:=[.ref a]) (h₀:=X.base) I.ok.mod.kin hm.kp (bZ (ha pos b n σ B _ j q) λus s2 ⟨vs,H2,g,r,v⟩=>⟨g.kIn,?_⟩) hst hpl;exact oA (us:=.ref a::us) (vs:=.ref a::vs) F hr hb hd hx g (.cons rfl r) v
theorem DZ{pl:Sem Bool}(he:PE X o ta)(c:m8 X.K C)(hm:c_ X.K C m f)(F:aY X.prog X.w X.K X.mg X.base CX k f fd ps sp)(hr:dv k X.A)(hb:bU X.K fd ps ds)(hd:bq dvs ds)(hx:dB CX X E)
  (ht:autoParam (eval (.Call (.Attribute o m apos) [] [] pos) X.env=(do
   let ov <- eval o X.env
   standAt apos.atName
   let (f,first) <- holding [ov] (getMethod ov m pl)
   callWith pos f first (backTo pos (starEach [] X.env)) (backToKw pos (keywordEach [] X.env)))) zz0._auto_1) :
  PE X (.Call (.Attribute o m apos) [] [] pos) (tU C m sp dvs E ta vR):=by
 intro b s σ H Q I h;refine PySem.W.methodCall_KW (pl:=pl) (bZ (he b s σ H _ I h) λu s1 ⟨x,H1,e,g,a,dx,fs,j,n,l,q⟩=>?_) ht;subst j;obtain rfl:u=Value.ref a:=g;refine g_ e n c hm l ?_;exact PySem.W.callWith_K0 (first:=[.ref a]) e.kIn hm.kp (oA (us:=[.ref a]) (vs:=[.ref a]) F hr hb hd hx e (.cons rfl .nil) q)
structure Mk(K:Nr)(C f:Addr):Prop where
 makes:PySem.W.makesIn K C=true
 init:PySem.W.findIn K (.ref C) "__init__"=some (some (.ref f))
 fn:PySem.W.isFn K (.ref f)=true
 kp:PySem.W.keepIn K (.ref C)=true
theorem Dl{pins:Nt}{σ:St}{Q:VK}(M:Mk X.K C f)(F:aY X.prog X.w X.K X.mg X.base CX k f fd ps sp)(hr:dv (k+1) X.A)(hb:bU X.K fd ps ds)(hd:bq dvs ds)
  (hx:dB CX X E) (I:Inv X pins σ H s) (r:bq vs us)
  (h:∀x dx,H x=none->H dx=none->dx≠x->sp (.ref x::(vs++dvs)) (aC (aC H dx (.own x)) x (.ins C dx [])) (λv H2=>v=.non/\Q (.ref x) H2) E) :
  wpAny (model X.prog X.w) X.A (call (.ref C) us) (EP X pins σ Q) X.xe s:=by
 have g:=h (s.heap.objs.size+1) s.heap.objs.size (I.hok.fresh (Nat.le_succ _)) (I.hok.fresh (MU _)) (MQ (M7 _));have b:=Inv.made (C:=C) I;have c:bq (V.ref (s.heap.objs.size+1)::(vs++dvs)) (Value.ref (s.heap.objs.size+1)::(us++ds)):=.cons rfl (r.append hd);have n:(Value.ref (s.heap.objs.size+1)::us++ds).length=ps.length:=by
  have e:=c.length;rw[F.len _ _ _ _ g]at e;exact e.symm
 refine wpAny_call (D1 (f:=f) I.kIn M.makes M.init (beq_iff_eq.mp M.fn) (codeAny_mono (F.run _ X.stack _ _ ⟨Value.ref (s.heap.objs.size+1)::us,[]⟩ (Value.ref (s.heap.objs.size+1)::(us++ds)) _ _ E (hr.make C us [])
  (b.env0.make C us []) (hb _ (Value.ref (s.heap.objs.size+1)::us) b.kIn n) c g) λr j a=>?_))
 cases r with
 |error e=>exact hx pins σ _ _ e j b a
 |ok fl=>
  cases fl with
  |ret u=>
   obtain⟨v,q,p,l,o,m⟩:=b.after a;subst o;exact⟨l,⟨V.ref (s.heap.objs.size+1),q,p,rfl,m⟩⟩
  |next=>exact False.elim a
  |brk=>exact False.elim a
  |cont=>exact False.elim a
theorem Gh(M:Mk X.K C f)(F:aY X.prog X.w X.K X.mg X.base CX k f fd ps sp)(hr:dv (k+1) X.A)(hg:Gl X x)(hm:X.mg x=some (.ref C))(hb:bU X.K fd ps ds)(hd:bq dvs ds)(hx:dB CX X E)
  (ha:PA X (e::es) t) (hdb:autoParam ((x==("__debug__":Str))=false) zz1._auto_1) (he:autoParam (starEach (e::es) X.env=(false,eval e X.env)::starEach es X.env) zz0._auto_1) (hpl:autoParam ((backTo pos (starEach es X.env)).any (·.1)=false) zz0._auto_1) :
  PE X (.Call (.Name x p) (e::es) [] pos) (AQ C sp dvs E t):=by
 intro a s σ H Q I h;refine wpAny_Call_Name_kw (ig I hg hm ?_ hdb);refine PySem.W.callWith_K (h₀:=X.base) I.ok.mod.kin M.kp (bZ (ha pos a s σ H _ I h) λus s1 ⟨vs,H1,b,r,q⟩=>⟨b.kIn,?_⟩) he hpl;exact Dl M F hr hb hd hx b r q
end
section
variable {X:Cx}{CX:kc}{k:Nat}{f C:Addr}{fd:NA}{ps ks:ND}{sp:Sp}{E:XK}{x m:Str}{p pos apos kpos:Pos}{e o:Expr}{es:NH}{kws:List Keyword}{te ta:TE}{t tk:TA}{nm:Option Str}
variable {g:List Value->List Value->List Value}{gV:List V->List V->List V}
end
structure az(N P:ND)(sc:Scope):Prop where
 kind:sc.kind=.function
 co:sc.isCoroutine=false
 gen:sc.isGenerator=false
 nd:N.Nodup
 pre:N.take P.length=P
 par:∀x∈P,sc.names.lookup x=some .local\/sc.names.lookup x=some .cell
 nofree:∀y∈sc.names,y.2≠.free
theorem uA{kindOf:Str->Option NameKind}{x:Str}:∀{binds:List (Str×Value)} {m:Nz},(∀v,(x,v)∉binds)->bindL kindOf binds m x=m x
 | [],_,_=>rfl
 | (n,v)::r,m,h=>by
  unfold bindL;rw[uA λw hw=>h w (MN _ hw)]
  split
  ·have:x≠n:=by rintro rfl;exact h v q0B
   simp[this]
  ·rfl
theorem uK{kindOf:Str->Option NameKind}{x:Str}:∀{binds:List (Str×Value)} {m:Nz},(∀v,(x,v)∉binds)->bindC kindOf binds m x=m x
 | [],_,_=>rfl
 | (n,v)::r,m,h=>by
  unfold bindC;rw[uK λw hw=>h w (MN _ hw)]
  split
  ·rfl
  ·have:x≠n:=by rintro rfl;exact h v q0B
   simp[this]
theorem t_{kindOf:Str->Option NameKind}{x:Str}{v:Value}:∀{P:ND} {vs:Nw} {i:Nat} {m:Nz},P.Nodup->P[i]?=some x->vs[i]?=some v->kindOf x=some .local ->
  bindL kindOf (P.zip vs) m x=some v
 | [],_,_,_,_,h,_,_=>by simp at h
 |_::_,[],_,_,_,_,h,_=>by simp at h
 |p::P,w::vs,0,m,nd,h1,h2,hk=>by
  simp at h1 h2;subst h1;subst h2
  show bindL kindOf ((p,w)::P.zip vs) m p=_;unfold bindL;rw[uA λv hv=>(List.nodup_cons.mp nd).1 (List.of_mem_zip hv).1,q07 hk];simp
 |p::P,w::vs,i+1,m,nd,h1,h2,hk=>by
  show bindL kindOf ((p,w)::P.zip vs) m x=_;unfold bindL;exact t_ (i:=i) (List.nodup_cons.mp nd).2 (by simpa using h1) (by simpa using h2) hk
theorem uT{kindOf:Str->Option NameKind}{x:Str}{v:Value}:∀{P:ND} {vs:Nw} {i:Nat} {m:Nz},P.Nodup->P[i]?=some x->vs[i]?=some v->kindOf x≠some .local ->
  bindC kindOf (P.zip vs) m x=some v
 | [],_,_,_,_,h,_,_=>by simp at h
 |_::_,[],_,_,_,_,h,_=>by simp at h
 |p::P,w::vs,0,m,nd,h1,h2,hk=>by
  simp at h1 h2;subst h1;subst h2
  show bindC kindOf ((p,w)::P.zip vs) m p=_;unfold bindC;rw[uK λv hv=>(List.nodup_cons.mp nd).1 (List.of_mem_zip hv).1,q06 hk];simp
 |p::P,w::vs,i+1,m,nd,h1,h2,hk=>by
  show bindC kindOf ((p,w)::P.zip vs) m x=_;unfold bindC;exact uT (i:=i) (List.nodup_cons.mp nd).2 (by simpa using h1) (by simpa using h2) hk
def start(N:ND)(vs:List V):St:=vs.map some++List.replicate (N.length-vs.length) none
def gS(CX:kc)(P:NC)(w:NF)(K:Nr)(mg:Nz)(base:Heap)(N:ND)(qual:Str)(scope:Scope)(f:Addr)(cd:Value)(A:NE)(outer:List Env)(s:Nv)(H:Hp)(E:XK):Cx where
 prog:=P
 w:=w
 K:=K
 mg:=mg
 base:=base
 A:=A.deeper (envOfC qual scope s.heap.objs.size f cd)
 N:=N
 s₀:=s
 H₀:=H
 env:=envOfC qual scope s.heap.objs.size f cd
 outer:=outer
 stack:=envOfC qual scope s.heap.objs.size f cd::outer
 ex:=[]
 calm:=true
 fn:=λ_=>true
 pn:=[]
 xe:=λe s'=>wpAny (model P w) (A.deeper (envOfC qual scope s.heap.objs.size f cd)) (leaving (envOfC qual scope s.heap.objs.size f cd) e) (λ_ s''=>CX outer H s E e s'') (λe' s''=>CX outer H s E e' s'') s'
theorem xw{sc:Scope}(h:sc.names.lookup x=some .cell):∃c,(cellsFrom n sc.names []).lookup x=some c:=by
 have q:=PySem.W.cellsFrom_some sc.names n [] (.inl h);exact Option.isSome_iff_exists.mp q
theorem BP{CX:kc}{K:Nr}{mg:Nz}{base:Heap}{ps:ND}{qual:Str}{scope:Scope}{f:Addr}{cd:Value}{A:NE}{outer:List Env}{s1:Nv}{vs:List V}
  (S:az N ps scope) (hd:A.handled=none) (e0:yl P w K mg base A outer s H) (hl:vs.length=ps.length) (r:bq vs us)
  (x:InCallC s s.heap.objs.size (bindL (envOfC qual scope s.heap.objs.size f cd).kindOf (ps.zip us) λ_=>none) (cellsFrom (s.heap.objs.size+1) scope.names []) (bindC (envOfC qual scope s.heap.objs.size f cd).kindOf (ps.zip us) λ_=>none) s1) :
  Inv (gS CX P w K mg base N qual scope f cd A outer s H E) [] (start N vs) H s1:=by
 have hpl:ps.length<=N.length:=by have:=q0O List.length S.pre;rw[Na]at this;omega
 obtain⟨h1,tk,rfl,B⟩:=x.done;have g:∀b:Addr,b∉(gS CX P w K mg base N qual scope f cd A outer s H E).ex:=λb z=>q0N (show b∈([]:List Addr) from z) (by simp);refine⟨⟨e0.mod,S.kind,rfl,rfl,MU _,λy z c h1 h2=>?_,λy hy=>?_,λy c _ h=>?_,λ_=>hd,Around.frames_deeper e0.frames,.inr ⟨rfl,rfl⟩,λb z=>q0N z (g b),e0.bs,e0.bsz,λb _ _=>g b,λb z=>q0N z (g b),e0.funs,e0.frf⟩,
  rfl,e0.bare,Un.kept B,⟨_,x.toInCall.ns,λi y v h1 h2 h3=>?_⟩,λy c h=>⟨_,x.cell y c h⟩,e0.hok.fresh (MU _),λy c h=>?_,λp l=>q0N (show p∈([]:List (Addr×Obj)) from l) (by simp),e0.hok.kept B,?_⟩
 ·exact name_of_addr x.apart (PySem.mem_of_lookup h1) (PySem.mem_of_lookup h2)
 ·have hy:scope.names.lookup y=some .cell\/scope.names.lookup y=some .free:=hy
  rcases hy with hy | hy
  ·exact xw hy
  ·exact q0N rfl (S.nofree _ (PySem.mem_of_lookup hy))
 ·exact q0M (x.above y c (PySem.mem_of_lookup h))
 ·have m:i<vs.length:=by
   unfold start at h2
   by_cases m:i<vs.length
   ·exact m
   ·rw[MR (by simpa using m)]at h2
    rw[List.getElem?_replicate]at h2
    split at h2<;>cases h2
  have D:vs[i]?=some v:=by
   unfold start at h2;rw[MS (by simpa using m),MA]at h2;cases e:vs[i]? with
   |none=>rw[e]at h2;cases h2
   |some a=>rw[e]at h2;cases h2;rfl
  obtain⟨u,o,C⟩:=r.get D;have l:ps[i]?=some y:=by
   rw[<- S.pre,List.getElem?_take_of_lt ⋯];exact h1
  have j:ps.Nodup:=by rw[<- S.pre];exact S.nd.sublist (List.take_sublist _ _)
  refine⟨u,C,?_⟩;rcases S.par y (MB l) with k | k
  ·exact .inl ⟨k,t_ j l o k⟩
  ·obtain⟨c,e⟩:=xw (n:=s.heap.objs.size+1) k
   refine .inr ⟨.inl k,c,e,?_⟩;have q:=x.cell y c e;rw[uT j l o (by show scope.names.lookup y≠_;rw[k];decide)]at q;exact q
 ·exact e0.hok.fresh (q0M (x.above y c (PySem.mem_of_lookup h)))
 ·unfold start
  show _=N.length;rw[MT,My,List.length_replicate];omega
theorem GN{CX:kc}{K:Nr}{mg:Nz}{base:Heap}{f:Addr}{name qual:Str}{params:Arguments}{body:List Stmt}{scope:Scope}{dV kV doc pm cdv ct oc:Value}{an od:NG}
  {osl:Array (Option Value)}{ps:ND} {sp:Sp} (lk:K.lookup f=some ⟨oc,od,.func (PySem.W.fnOf name qual params body scope dV kV doc pm an cdv ct),osl⟩) (hcd:PySem.W.codeIn K cdv qual=true) (S:az N ps scope)
  (len:∀vs H Q E,sp vs H Q E->vs.length=ps.length)
  (hbody:∀(A:NE) (outer:List Env) (s:Nv) (H:Hp) (vs:List V) (Q:VK) (E:XK),dv k (A.deeper (envOfC qual scope s.heap.objs.size f cdv))->sp vs H Q E ->
   ∃t,yf (gS CX P w K mg base N qual scope f cdv A outer s H E) body t/\t {nx:=λ_ H'=>Q .non H',rt:=Q} (start N vs) H) :
  aY P w K mg base CX (k+1) f (PySem.W.fnOf name qual params body scope dV kV doc pm an cdv ct) ps sp:=by
 refine⟨len,λA outer s H args G vs Q E hr l U r g=>?_⟩;have R:=len _ _ _ _ g;have D:K.In s.heap:=l.mod.kin.keeps λb o e=>(l.bs b o e).1;have B:s.heap.NoLimit:=l.mod.nolimit.keeps λb o e=>(l.bs b o e).1;have a:∀y∈ps.zip G,scope.names.lookup y.1=some .local\/(scope.names.lookup y.1=some .cell/\((cellsFrom (s.heap.objs.size+1) scope.names []).lookup y.1).isSome=true):=λ⟨n,v⟩ L=>by
  rcases S.par n (List.of_mem_zip L).1 with q | q
  ·exact .inl q
  ·exact .inr ⟨q,PySem.W.cellsFrom_some _ _ _ (.inl q)⟩
 refine codeAny_call_function hr.depth (D _ _ lk) rfl S.co S.gen rfl (PySem.W.codeRec_of D hcd) (U _ _ _ _ ?_);refine wpAny_newFunctionEnv_cells S.kind a λenv T C x=>?_;subst T;refine⟨B.keeps x.toInCall.keep,codeAny_func ?_⟩;obtain⟨t,M,O⟩:=hbody A outer s H vs Q E (hr.deeper _) g;have I:Inv (gS CX P w K mg base N qual scope f cdv A outer s H E) [] (start N vs) H C:=BP S hr.hd l R r x;refine q0S (M [] C (start N vs) H _ I O) (λfl m c=>?_) λe m c=>c;have j:∀{σ':St} {H':Hp} {v:V} {u:Value},Inv (gS CX P w K mg base N qual scope f cdv A outer s H E) [] σ' H' m->bv v u->Q v H'->CE outer P w H s Q u m:=
  fun{σ' H' v u} J p q=>⟨v,H',J.os,J.bare,J.base,J.hok,p,q⟩
 cases fl with
 |ret u=>
  obtain⟨v,σ',H',J,p,q⟩:=c;exact j J p q
 |next=>
  obtain⟨σ',H',J,q⟩:=c;exact j (v:=V.non) (u:=Value.none) J rfl q
 |brk=>
  obtain⟨_,_,_,q⟩:=c;exact False.elim q
 |cont=>
  obtain⟨_,_,_,q⟩:=c;exact False.elim q
section
variable {X:Cx}{x:Str}{p pos:Pos}{e:Expr}{es:NH}{t:TA}{id T:String}{r:List V->Hp->VK->Prop}
def Jb(r:List V->Hp->VK->Prop)(t:TA):TE:=λσ H Q=>t σ H λvs H1=>r vs H1 Q
theorem ax(hc:iy X (.builtin id) r)(hg:Gl X x)(hm:X.mg x=none)(hv:bootBuiltins x=some (.builtin id))(ha:PA X (e::es) t)(hn:autoParam (x≠"__name__") zz1._auto_1)(hdb:autoParam ((x==("__debug__":Str))=false) zz1._auto_1)
  (he:autoParam (starEach (e::es) X.env=(false,eval e X.env)::starEach es X.env) zz0._auto_1) (hpl:autoParam ((backTo pos (starEach es X.env)).any (·.1)=false) zz0._auto_1):PE X (.Call (.Name x p) (e::es) [] pos) (Jb r t):=by
 intro a s σ H Q I h;refine wpAny_Call_Name_kw (fP I hg hm hv ?_ hn hdb);exact PyProof.Rows.callWith_builtin1 (bZ (ha pos a s σ H _ I h) λus b ⟨vs,k,j,c,g⟩=>hc a b σ k vs us Q j c g) he hpl
theorem eZ(hc:iy X (.type T) r)(hg:Gl X x)(hm:X.mg x=none)(hv:bootBuiltins x=some (.type T))(ha:PA X (e::es) t)(hn:autoParam (x≠"__name__") zz1._auto_1)(hdb:autoParam ((x==("__debug__":Str))=false) zz1._auto_1)
  (he:autoParam (starEach (e::es) X.env=(false,eval e X.env)::starEach es X.env) zz0._auto_1) (hpl:autoParam ((backTo pos (starEach es X.env)).any (·.1)=false) zz0._auto_1):PE X (.Call (.Name x p) (e::es) [] pos) (Jb r t):=by
 intro a s σ H Q I h;refine wpAny_Call_Name_kw (fP I hg hm hv ?_ hn hdb);exact PyProof.Rows.callWith_type1 (bZ (ha pos a s σ H _ I h) λus b ⟨vs,k,j,c,g⟩=>hc a b σ k vs us Q j c g) he hpl
end
end L2
namespace HT
open PySem PyProof.Rows
section
variable {prog:NC}{w:NF}{A:NE}{E:Nq}{s:Nv}
theorem cat_tup{t:Addr}{vs ws:Nw}{Q:Nq}(ht:IsTup s.heap t vs.toArray)(hb:IsTup s.heap b ws.toArray)(hv:vs≠[])
  (h1:ws=[]->Q (.ref t) s) (h2:ws≠[]->Q (.ref s.heap.objs.size) {s with heap:=s.heap.push {cls:=.type "tuple",data:=.seq (vs++ws).toArray} })
  (hsz:vs.length+ws.length<=sizeLine):wpAny (model prog w) A (binaryOp .Add (.ref t) (.ref b)) Q E s:=by
 obtain⟨⟨cls,u,data,o⟩,m,r,n,q⟩:=id ht;obtain⟨⟨cls2,k,data2,c⟩,a,j,p,g⟩:=id hb;simp only at r q j g;subst r q j g;have e:vs.toArray++ws.toArray=(vs++ws).toArray:=by simp
 by_cases l:ws=[]
 ·exact concat_meets ⟨_,m,rfl⟩ ⟨_,a,rfl⟩ noFill_tuple_add seq_tuple_add PySem.F.slot_tuple_add PySem.F.entry_tuple_add (PySem.F.args_tuple_add_2 _ _)
   (tuple_addW1 t b vs.toArray ws.toArray n p u k o c (by simpa using hv) (by simp[l])) ⟨m,a,h1 l⟩
 ·refine concat_meets ⟨_,m,rfl⟩ ⟨_,a,rfl⟩ noFill_tuple_add seq_tuple_add PySem.F.slot_tuple_add PySem.F.entry_tuple_add (PySem.F.args_tuple_add_2 _ _)
   (tuple_addW2 t b vs.toArray ws.toArray n p u k o c (by simpa using hv) (by simpa using l) (by rw[ME,ME];exact hsz)) ⟨m,a,?_⟩
  rw[e];exact h2 l
def sIx(n d:Nat):Option Int->Nat
 |none=>d
 |some v=>if v<0 then(v+(n:Int)).toNat else min v.toNat n
theorem sIx_none(n d:Nat):sIx n d none=d:=rfl
theorem sIx_nat(n d k:Nat):sIx n d (some (k:Int))=min k n:=by
 show(if(k:Int)<0 then((k:Int)+(n:Int)).toNat else min (k:Int).toNat n)=min k n;rw[q06 ⋯,MG]
theorem sIx_le(n d:Nat)(hd:d<=n)(o:Option Int):sIx n d o<=n:=by
 cases o with
 |none=>exact hd
 |some v=>
  show(if v<0 then(v+(n:Int)).toNat else min v.toNat n)<=n
  by_cases a:v<0
  ·rw[q07 a];omega
  ·rw[q06 a];exact Nat.min_le_right _ _
theorem A0(v:Int)(n d:Nat):(if v<0 then max (v+(n:Int)) 0 else min v (n:Int))=((sIx n d (some v):Nat):Int):=by
 show(if v<0 then max (v+(n:Int)) 0 else min v (n:Int))=(((if v<0 then(v+(n:Int)).toNat else min v.toNat n):Nat):Int)
 by_cases a:v<0
 ·simp only[q07 a];omega
 ·simp only[q06 a];omega
theorem yK(lo hi:Option Int)(n:Nat):Builtin.Slice.sliceAdjust lo hi 1 (n:Int)=(((sIx n 0 lo:Nat):Int),((sIx n n hi:Nat):Int)):=by
 have h1:¬ ((1:Int)<0):=by omega
 unfold Builtin.Slice.sliceAdjust;simp only[h1,if_false];refine Prod.ext ?_ ?_
 ·cases lo with
  |none=>rfl
  |some v=>exact A0 v n 0
 ·cases hi with
  |none=>rfl
  |some v=>exact A0 v n n
theorem zT(i j:Nat):Builtin.Slice.slicePlaces (i:Int) (j:Int) 1=j-i:=by
 unfold Builtin.Slice.slicePlaces;have h1:(1:Int)>0:=by omega
 simp only[h1,if_true,Int.ediv_one]
 split<;>omega
theorem rG{Q:Option Int->Shared->Prop}(p:IsPart v o)(h:Q o s):wpAny (model prog w) A (Builtin.Slice.slicePartIndex v) Q E s:=by
 cases p with
 |none=>exact slicePart_none h
 |int i t=>exact slicePart_int h
theorem iQ{sl:Addr}{vl vu:Value}{lo hi:Option Int}{n:Nat}{Q:Int×Int×Nat->Shared->Prop}(hs:s.heap.IsSliceOf sl vl vu .none)(pl:IsPart vl lo)(pu:IsPart vu hi)
  (h:Q (((sIx n 0 lo:Nat):Int),1,sIx n n hi-sIx n 0 lo) s):wpAny (model prog w) A (Builtin.Slice.sliceApplied (.ref sl) (pure (n:Int))) Q E s:=by
 obtain⟨os,a,hcs,b⟩:=id hs;unfold Builtin.Slice.sliceApplied Builtin.Slice.sliceFields;refine q04 (q04 (wpAny_field a b (x:=vl) rfl (q04 (wpAny_field a b (x:=vu) rfl (q04 (wpAny_field a b (x:=.none) rfl (q05 ?_)))))));refine q04 (slicePart_none ?_);show wpAny _ _ (if((1:Int)==0)=true then _ else _) _ _ s;rw[q06 nofun];refine q04 (rG pl (q04 (rG pu (q04 (q05 ?_)))));show wpAny _ _ (match Builtin.Slice.sliceAdjust lo hi 1 (n:Int) with | (lo,hi)=>pure (lo,(1:Int),Builtin.Slice.slicePlaces lo hi 1)) _ _ s;rw[yK lo hi n];show wpAny _ _ (pure (((sIx n 0 lo:Nat):Int),(1:Int),Builtin.Slice.slicePlaces ((sIx n 0 lo:Nat):Int) ((sIx n n hi:Nat):Int) 1)) _ _ s;rw[zT];exact q05 h
theorem Fa(xs:Array Value)(i k:Nat):((List.range k).filterMap fun(m:Nat)=>xs[((i:Int)+(m:Int)*1).toNat]?).toArray=((xs.toList.drop i).take k).toArray:=by
 have e:(fun(m:Nat)=>xs[((i:Int)+(m:Int)*1).toNat]?)=λm=>xs[i+m]?:=by
  funext m
  have:((i:Int)+(m:Int)*1).toNat=i+m:=by omega
  rw[this]
 rw[e];have:=pick_run xs i k;rw[List.filterMap_map]at this;have a:((λx=>xs[x]?)∘λx=>i+x)=λm=>xs[i+m]?:=rfl;rw[a]at this;rw[this]
theorem getItem_tuple_cut{t sl:Addr}{items:Array Value}{vl vu:Value}{lo hi:Option Int}{Q:Nq}(ht:IsTup s.heap t items)(hs:s.heap.IsSliceOf sl vl vu .none)(pl:IsPart vl lo)(pu:IsPart vu hi)
  (hw:¬ (sIx items.size 0 lo=0/\sIx items.size items.size hi=items.size))
  (h:Q (.ref s.heap.objs.size) {s with heap:=s.heap.push {cls:=.type "tuple",data:=.seq ((items.toList.drop (sIx items.size 0 lo)).take (sIx items.size items.size hi-sIx items.size 0 lo)).toArray} })
  (hsz:items.size<=sizeLine):wpAny (model prog w) A (getItem (.ref t) (.ref sl)) Q E s:=by
 have a:sizeOk (.seq ((items.toList.drop (sIx items.size 0 lo)).take (sIx items.size items.size hi-sIx items.size 0 lo)).toArray):=by
  show((items.toList.drop (sIx items.size 0 lo)).take (sIx items.size items.size hi-sIx items.size 0 lo)).toArray.size<=sizeLine;rw[ME,Na,Nb,Array.length_toList];omega
 have hj:sIx items.size items.size hi<=items.size:=sIx_le _ _ (MU _) hi;obtain⟨j,b,e,hds⟩:=id hs;have g:s.TypeIs (.ref sl) "slice":=⟨j,b,e⟩;unfold getItem
 try with_reducible refine q0T ?_
 first | refine q04 (q05 ?_) | skip
 refine q04 (wpAny_sequenceKey ht.typeIs nofun ?_);refine q04 (wpAny_callSpecial?_slot (name:=Str.ofString "__getitem__") ht.typeIs PyProof.Rows.slot_tuple_getitem
  (wpAny_call_entry PyProof.Rows.slot_tuple_getitem ht.typeIs entry_tuple_getitem ?_ (args_tuple_getitem _ _)))
 show wpAny _ _ (Builtin.Tuple.tupleItemsOf (.ref t) >>= _) _ _ s;refine q04 (tupleItemsOf_ ht ?_);refine q04 (wpAny_typeOf g ?_);rw[q07 nofun];refine q04 (iQ hs pl pu ?_);have c:¬ ((((sIx items.size 0 lo:Nat):Int)==0&&(1:Int)==1&&(sIx items.size items.size hi-sIx items.size 0 lo)==items.size)=true):=by
  intro q;rw[q0L,q0L]at q;have q1:((sIx items.size 0 lo:Nat):Int)=0:=eq_of_beq q.1.1;have q2:sIx items.size items.size hi-sIx items.size 0 lo=items.size:=eq_of_beq q.2;exact hw ⟨⋯,⋯⟩
 show wpAny _ _ (if(((sIx items.size 0 lo:Nat):Int)==0&&(1:Int)==1&&(sIx items.size items.size hi-sIx items.size 0 lo)==items.size)=true then _ else _) _ _ s;rw[q06 c,Fa]
 first
  |exact q04 (m:=Builtin.Tuple.tupleExact _) (wpAny_newObj_type (q05 ⟨_,rfl,q05 h⟩) a)
  |exact q04 (m:=Builtin.Tuple.tupleExact _) (wpAny_newObj_type (q04 (q05 (q05 ⟨_,rfl,q05 h⟩))) a)
  |exact q04 (q04 (m:=Builtin.Tuple.tupleExact _) (wpAny_newObj_type (q05 (q05 ⟨_,rfl,q05 h⟩)) a))
  |exact q04 (q04 (m:=Builtin.Tuple.tupleExact _) (wpAny_newObj_type (q05 ⟨_,rfl,q05 h⟩) a))
end
end HT
namespace L2
open PySem PySem.Spec PyProof.Rows
abbrev TO:=St->Hp->(Option Int->Hp->Prop)->Prop
def PO(X:Cx)(e:Option Expr)(t:TO):Prop:=
 ∀(pins:Nt) (s:Nv) (σ:St) (H:Hp) (Q:Option Int->Hp->Prop),Inv X pins σ H s->t σ H Q ->
  wpAny (model X.prog X.w) X.A (evalPart e X.env) (λu s'=>∃o H',Inv X pins σ H' s'/\IsPart u o/\Q o H') X.xe s
def wo:TO:=λ_ H Q=>Q none H
def Dp(t:TE):TO:=λσ H Q=>t σ H λx H1=>∃i,x=.int i/\Q (some i) H1
section
variable {X:Cx}{e:Expr}{te:TE}{lo hi:Option Expr}{tl th:TO}{pos p2:Pos}
theorem eC:PO X none wo:=by
 intro pins s σ H Q I h;rw[evalPart_none];exact q05 ⟨none,H,I,.none,h⟩
theorem cP(h:PE X e te):PO X (some e) (Dp te):=by
 intro a s σ H Q I hw;rw[evalPart_some];refine bZ (h a s σ H _ I hw) λu s1 ⟨x,j,g,b,c⟩=>?_;obtain⟨i,rfl,q⟩:=c;obtain⟨t,rfl⟩:=b;exact⟨some i,j,g,.int i t,q⟩
def IE(X:Cx)(r:V->Option Int->Option Int->Hp->VK->Prop):Prop:=
 ∀(pins:Nt) (s:Nv) (σ:St) (H:Hp) (x:V) (v vl vu:Value) (lo hi:Option Int) (sl:Addr) (Q:VK),Inv X pins σ H s->bv x v->s.heap.IsSliceOf sl vl vu .none->IsPart vl lo->IsPart vu hi->r x lo hi H Q ->
  ∃T id,typeLookup (.type T) "__getitem__"=pure (some (.builtin id))/\s.TypeIs v T/\wpAny (model X.prog X.w) X.A (getItem v (.ref sl)) (EP X pins σ Q) X.xe s
def Jo(r:V->Option Int->Option Int->Hp->VK->Prop)(te:TE)(tl th:TO):TE:=λσ H Q=>te σ H λx H1=>tl σ H1 λl H2=>th σ H2 λu H3=>r x l u H3 Q
theorem cJ(hr:IE X r)(he:PE X e te)(hl:PO X lo tl)(hu:PO X hi th):PE X (.Subscript e (.Slice lo hi none p2) pos) (Jo r te tl th):=by
 intro a s σ H Q I h;refine Subscript_ (bZ (he a s σ H _ I h) λv k ⟨x,S,O,m,p⟩=>?_);refine wpAny_Slice (bZ (hl a k σ S _ O p) λvl j ⟨l,R,M,B,o⟩=>bZ (hu a j σ R _ M o) λvu c ⟨u,g,L,y,n⟩=>?_);rw[evalPart_none];refine q05 ?_;have J:Inv X a σ g {c with heap:=c.heap.push {cls:=.type "slice",data:=.fields #[vl,vu,.none]} }:=L.kept (t':=c.toks) λb ob q=>Mx _ q;obtain⟨T,id,G,C,D⟩:=hr a {c with heap:=c.heap.push {cls:=.type "slice",data:=.fields #[vl,vu,.none]} } σ g x v vl vu l u c.heap.objs.size Q J m (Heap.IsSliceOf.new ..) B y n;show wpAny (model X.prog X.w) X.A (subscriptTail e (.Slice lo hi none p2) v (.ref c.heap.objs.size)) (EP X a σ Q) X.xe {c with heap:=c.heap.push {cls:=.type "slice",data:=.fields #[vl,vu,.none]} };exact tail_any (ops:=[.ref c.heap.objs.size,v]) C G D (by with_unfolding_all rfl)
def iY(xs:List V)(lo hi:Option Int):List V:=(xs.drop (HT.sIx xs.length 0 lo)).take (HT.sIx xs.length xs.length hi-HT.sIx xs.length 0 lo)
theorem kO(xs:List V)(lo hi:Option Int):(iY xs lo hi).length<=xs.length:=by
 unfold iY;rw[Na,Nb];omega
def Ib(K:Nr):V->Option Int->Option Int->Hp->VK->Prop:=λx lo hi H Q=>∃a xs,x=.ref a/\aV K H a xs /\
 ¬ (HT.sIx xs.length 0 lo=0/\HT.sIx xs.length xs.length hi=xs.length)/\∀p,H p=none->Q (.ref p) (aC H p (.tup (iY xs lo hi)))
theorem kD:IE X (Ib X.K):=by
 intro pins s σ H x v vl vu lo hi sl Q I rx hs pl pu h;obtain⟨a,e,rfl,l,m,q⟩:=h;cases rx;obtain⟨g,r,k,j⟩:=I.tuple l;have c:g.toArray.size=e.length:=by rw[ME];exact r.length.symm
 refine⟨"tuple",_,PyProof.Rows.slot_tuple_getitem.lookup,k.typeIs,?_⟩;refine HT.getItem_tuple_cut k hs pl pu (by rw[c];exact m) ?_ (by rw[c];exact j);rw[c];refine⟨.ref s.heap.objs.size,_,I.laid (t':=s.toks) (o:=.tup (iY e lo hi)) (λb ob q=>Mx _ q) (MU _) ?_,rfl,q _ (I.hok.fresh (MU _))⟩;exact⟨M5 (kO e lo hi) j,_,(r.drop (HT.sIx e.length 0 lo)).take (HT.sIx e.length e.length hi-HT.sIx e.length 0 lo),IsTup.new _ _⟩
def Eo(K:Nr):R2:=λx y H Q=>∃a b xs ys,x=.ref a/\y=.ref b/\aV K H a xs/\aV K H b ys/\xs≠[]/\xs.length+ys.length<=sizeLine /\
 (ys=[]->Q (.ref a) H)/\(ys≠[]->∀p,H p=none->Q (.ref p) (aC H p (.tup (xs++ys))))
theorem bq.nil_iff(r:bq xs us):us=[]↔xs=[]:=by
 cases r with
 |nil=>simp
 |cons _ _=>simp
theorem d_:br X (binaryOp .Add) (Eo X.K):=by
 intro pins s σ H x y v u Q I rx ry h;obtain⟨a,b,k,j,rfl,rfl,C,B,r,g,m,l⟩:=h;cases rx;cases ry;obtain⟨its,e,p,_⟩:=I.tuple C;obtain⟨its2,c,n,_⟩:=I.tuple B;refine HT.cat_tup p n (λz=>r (e.nil_iff.mp z)) (λz=>⟨.ref a,H,I,rfl,m (c.nil_iff.mp z)⟩) (λz=>?_) (by rw[<- e.length,<- c.length];exact g);refine⟨.ref s.heap.objs.size,_,I.laid (t':=s.toks) (o:=.tup (k++j)) (λb ob q=>Mx _ q) (MU _) ?_,rfl,l (λw=>z (c.nil_iff.mpr w)) _ (I.hok.fresh (MU _))⟩;exact⟨by rw[MT];exact g,_,e.append c,IsTup.new _ _⟩
end
def Il(n:Nat)(i:Int):Option Nat:=if 0<=i then(if i<n then some i.toNat else none) else if -(n:Int)<=i then some (i+n).toNat else none
def dY{α:Type}(xs:List α)(i:Int):Option α:=(Il xs.length i).bind λj=>xs[j]?
theorem Gp{n:Nat}{i:Int}{j:Nat}(h:Il n i=some j):seqIndex? i n=some j/\j<n/\-(n:Int)<=i/\i<n:=by
 unfold Il at h
 by_cases a:0<=i
 ·rw[q07 a]at h
  by_cases h1:i<n
  ·rw[q07 h1]at h
   have e:i.toNat=j:=q0P h;exact⟨by rw[seqIndex_of a h1,e],⋯,⋯,h1⟩
  ·rw[q06 h1]at h;cases h
 ·rw[q06 a]at h
  by_cases h1:-(n:Int)<=i
  ·rw[q07 h1]at h
   have e:(i+n).toNat=j:=q0P h;exact⟨by rw[seqIndex_neg ⋯ h1,e],⋯,h1,⋯⟩
  ·rw[q06 h1]at h;cases h
theorem v6{α:Type}{xs:List α}{i:Int}{v:α}(h:dY xs i=some v):∃j,seqIndex? i xs.length=some j/\xs[j]?=some v/\j<xs.length/\-(xs.length:Int)<=i/\i<xs.length:=by
 unfold dY at h;cases e:Il xs.length i with
 |none=>rw[e]at h;cases h
 |some j=>
  rw[e]at h;obtain⟨h1,h2,b,a⟩:=Gp e;exact⟨j,h1,h,h2,b,a⟩
theorem aM{α:Type}{xs:List α}{j:Nat}{v:α}(h:xs[j]?=some v):dY xs (j:Int)=some v:=by
 have hj:j<xs.length:=(Mw.mp h).1;have e:Il xs.length (j:Int)=some j:=by
  unfold Il;rw[q07 ⋯,q07 ⋯];simp
 unfold dY;rw[e];exact h
def Gy(b:Expr):Prop:=∀o i,subscripted b false o i=operate [o,i] (getItem o i)
def GM(X:Cx)(r:R2):Prop:=
 ∀(value slice:Expr) (pins:Nt) (s:Nv) (σ:St) (H:Hp) (x y:V) (v u:Value) (Q:VK),Inv X pins σ H s->bv x v->bv y u->r x y H Q ->
  subscripted slice false v u=operate [v,u] (getItem v u)->wpAny (model X.prog X.w) X.A (subscriptTail value slice v u) (EP X pins σ Q) X.xe s
def J9(X:Cx)(id:String)(r:V->List V->Hp->VK->Prop):Prop:=
 ∀(pins:Nt) (s:Nv) (σ:St) (H:Hp) (x:V) (xs:List V) (v:Value) (us:Nw) (Q:VK),Inv X pins σ H s->bv x v->bq xs us->r x xs H Q ->
  wpAny (model X.prog X.w) X.A (call (.builtin id) (v::us)) (EP X pins σ Q) X.xe s
section
variable {X:Cx}{a b:Expr}{ta tb:TE}{pos:Pos}
theorem au(hr:GM X r)(ha:PE X a ta)(hb:PE X b tb)(hs:Gy b):PE X (.Subscript a b pos) (Ii r ta tb):=by
 intro c s σ H Q I h;exact Subscript_ (Hf ha hb I h λv u e x y l k j g q=>hr a b c e σ l x y v u Q k j g q (hs _ _))
def BY(K:Nr):R2:=λx y H Q=>∃p xs i v,x=.ref p/\y=.int i/\aT K H p xs/\dY xs i=some v/\Q v H
def BD(K:Nr):R2:=λx y H Q=>∃p xs i v,x=.ref p/\y=.int i/\aV K H p xs/\dY xs i=some v/\Q v H
def G5:R2:=λx y H Q=>∃z i c,x=.str z/\y=.int i/\z.length<=sizeLine/\dY z.cps.toList i=some c/\Q (.str ⟨#[c]⟩) H
theorem vo:GM X (BY X.K):=by
 intro value slice a s σ H x y v u Q I rx ry h hs;obtain⟨p,xs,i,z,rfl,rfl,o,C,q⟩:=h;cases rx;obtain⟨t,rfl⟩:=ry;obtain⟨g,r,e,hz⟩:=I.list o;obtain⟨j,h1,h2,h3,G,D⟩:=v6 C;obtain⟨w,m,c⟩:=r.get h2;have B:=r.length;have hn:=rB;have b:EP X a σ Q w s:=⟨z,H,I,c,q⟩
 by_cases l:0<=i
 ·have k:i.toNat=j:=by
   rw[seqIndex_of l D]at h1;exact q0P h1
  exact item_listR e.isList l ⋯ (by rw[k];simpa using m) b hs
 ·have k:(i+(g.toArray.size:Int)).toNat=j:=by
   rw[seqIndex_neg ⋯ G]at h1;rw[ME,<- B];exact q0P h1
  exact subscriptTail_builtinR (x:=w) e.isList.typeIs slot_list_getitem.lookup
   (wpAny_getItem_list_neg (Q:=λr n=>r=w/\EP X a σ Q r n) e.isList ⋯ (by rw[ME]<;>omega) ⋯ (by rw[k];simpa using m) ⟨rfl,b⟩) hs
theorem EN:GM X (BD X.K):=by
 intro value slice a s σ H x y v u Q I rx ry h hs;obtain⟨p,xs,i,z,rfl,rfl,k,m,q⟩:=h;cases rx;obtain⟨t,rfl⟩:=ry;obtain⟨its,r,e,hz⟩:=I.tuple k;obtain⟨j,h1,h2,h3,h4,h5⟩:=v6 m;obtain⟨w,n,b⟩:=r.get h2;have l:=r.length;have hn:=rB;have c:EP X a σ Q w s:=⟨z,H,I,b,q⟩;exact subscriptTail_builtinR (x:=w) e.typeIs slot_tuple_getitem.lookup
  (getItem_tuple (j:=j) (Q:=λr g=>r=w/\EP X a σ Q r g) e ⋯ ⋯ (by rw[ME,<- l];exact h1) (by simpa using n) ⟨rfl,c⟩) hs
theorem oE:GM X G5:=by
 intro value slice pins s σ H x y v u Q I rx ry h hs;obtain⟨z,i,c,rfl,rfl,hz,b,q⟩:=h;obtain⟨t,rfl⟩:=rx;obtain⟨t',rfl⟩:=ry;obtain⟨j,h1,h2,h3,g,e⟩:=v6 b;have a:z.cps.toList.length=z.length:=by simp[Str.length]
 rw[a]at h1 g e;have hn:=rB;exact tail_any (typeIs_str s z t) slot_str_getitem.lookup (getItem_str (c:=c) (by
  have l:decide (i < -(2 ^ 63:Int))=false:=q08 ⋯;have k:decide (i≥2 ^ 63)=false:=q08 ⋯;rw[l,k,Bool.or_false]) (by rw[h1];simpa using h2) ⟨.str ⟨#[c]⟩,H,I.tok _,⟨_,rfl⟩,q⟩) hs
theorem vf(lo hi:Option Int)(n:Nat):(sliceBounds lo hi none n).1=((HT.sIx n 0 lo:Nat):Int)/\(sliceBounds lo hi none n).2.1=((HT.sIx n n hi:Nat):Int)/\(sliceBounds lo hi none n).2.2=1:=by
 refine⟨?_,?_,rfl⟩
 ·cases lo with
  |none=>simp[sliceBounds,HT.sIx]
  |some i=>
   simp only[sliceBounds,HT.sIx,Option.getD_none,show(1:Int)>0 by decide,if_true]
   by_cases h:i<0
   ·simp only[h,if_true]<;>omega
   ·simp only[h,if_false]<;>omega
 ·cases hi with
  |none=>simp[sliceBounds,HT.sIx]
  |some i=>
   simp only[sliceBounds,HT.sIx,Option.getD_none,show(1:Int)>0 by decide,if_true]
   by_cases h:i<0
   ·simp only[h,if_true]<;>omega
   ·simp only[h,if_false]<;>omega
theorem tL(its:Nw)(lo hi:Option Int):slicePick its.toArray lo hi none=((its.drop (HT.sIx its.length 0 lo)).take (HT.sIx its.length its.length hi-HT.sIx its.length 0 lo)).toArray:=by
 obtain⟨h1,h2,a⟩:=vf lo hi its.toArray.size;unfold slicePick;rw[h1,h2,a];simp only[sliceRange_one,pick_run,ME]<;>rfl
def HZ(K:Nr):V->Option Int->Option Int->Hp->VK->Prop:=λx lo hi H Q=>∃a xs,x=.ref a/\aT K H a xs/\∀p,H p=none->Q (.ref p) (aC H p (.lst (iY xs lo hi)))
theorem AR:IE X (HZ X.K):=by
 intro pins s σ H x v vl vu lo hi sl Q I rx hs pl pu h;obtain⟨a,c,rfl,k,q⟩:=h;cases rx;obtain⟨its,r,g,j⟩:=I.list k;have e:=r.length;refine⟨"list",_,slot_list_getitem.lookup,g.isList.typeIs,?_⟩;refine wpAny_getItem_list_slice g.isList hs pl pu .none (by simp) ?_ (by rw[ME]<;>omega);rw[tL,<- e];refine⟨.ref s.heap.objs.size,_,I.laid (t':=s.toks) (o:=.lst (iY c lo hi)) (λb ob q=>Mx _ q) (MU _) ?_,rfl,q _ (I.hok.fresh (MU _))⟩;exact⟨M5 (kO c lo hi) j,_,0,(r.drop (HT.sIx c.length 0 lo)).take (HT.sIx c.length c.length hi-HT.sIx c.length 0 lo),MD _ rfl⟩
def jM:V->Bool
 | .non=>true
 | .bl _=>true
 | .int _=>true
 | .str _=>true
 |_=>false
def rE:V->V->Bool
 | .non,.non=>true
 | .bl a,.bl b=>a==b
 | .bl a,.int b=>(if a then 1 else 0)==b
 | .int a,.bl b=>a==(if b then 1 else 0)
 | .int a,.int b=>a==b
 | .str a,.str b=>a==b
 |_,_=>false
theorem gR(ry:bv y u)(rx:bv x v)(fy:jM y=true)(fx:jM x=true):SeqAt.EqAt A s u v (rE y x):=by
 cases y with
 |non=>
  cases ry;cases x with
  |non=>cases rx;exact SeqAt.EqAt.same _
  |bl b=>cases rx;exact SeqAt.EqAt.none_bool b
  |int b=>obtain⟨t,rfl⟩:=rx;exact SeqAt.EqAt.none_int b t
  |str b=>obtain⟨t,rfl⟩:=rx;exact SeqAt.EqAt.none_str b t
  |_=>exact q0N (show false=true from fx) MW
 |bl a=>
  cases ry;cases x with
  |non=>cases rx;exact SeqAt.EqAt.bool_none a
  |bl b=>cases rx;exact SeqAt.EqAt.bool_bool a b
  |int b=>obtain⟨t,rfl⟩:=rx;exact SeqAt.EqAt.bool_int a b t
  |str b=>obtain⟨t,rfl⟩:=rx;exact SeqAt.EqAt.bool_str a b t
  |_=>exact q0N (show false=true from fx) MW
 |int a=>
  obtain⟨c,rfl⟩:=ry;cases x with
  |non=>cases rx;exact SeqAt.EqAt.int_none a c
  |bl b=>cases rx;exact SeqAt.EqAt.int_bool a c b
  |int b=>obtain⟨t,rfl⟩:=rx;exact SeqAt.EqAt.int_int a c b t
  |str b=>obtain⟨t,rfl⟩:=rx;exact SeqAt.EqAt.int_str a c b t
  |_=>exact q0N (show false=true from fx) MW
 |str a=>
  obtain⟨c,rfl⟩:=ry;cases x with
  |non=>cases rx;exact SeqAt.EqAt.str_none a c
  |bl b=>cases rx;exact SeqAt.EqAt.str_bool a c b
  |int b=>obtain⟨t,rfl⟩:=rx;exact SeqAt.EqAt.str_int a c b t
  |str b=>obtain⟨t,rfl⟩:=rx;exact SeqAt.EqAt.str_str a c b t
  |_=>exact q0N (show false=true from fx) MW
 |_=>exact q0N (show false=true from fy) MW
theorem nR:iy X (.builtin "len") (λxs H Q=>∃p ys,xs=[.ref p]/\(aT X.K H p ys\/aV X.K H p ys)/\Q (.int ys.length) H):=by
 intro pins s σ H xs us Q I r h;obtain⟨p,ys,rfl,hq,q⟩:=h;obtain⟨u,rfl,g⟩:=wY r;cases g;have hn:=rB;rcases hq with hq | hq
 ·obtain⟨e,b,c,j⟩:=I.list hq
  have a:=b.length;exact Calls.call_len_list c.isList (by simp only[ME]<;>omega) ⟨.int ys.length,H,I.tok _,⟨s.toks+1,by rw[ME,a]⟩,q⟩
 ·obtain⟨e,b,c,j⟩:=I.tuple hq
  have a:=b.length;exact len_tuple c (by simp only[ME]<;>omega) ⟨.int ys.length,H,I.tok _,⟨s.toks+1,by rw[ME,a]⟩,q⟩
theorem a_:iy X (.builtin "len") (λxs H Q=>∃z,xs=[.str z]/\z.length<=sizeLine/\Q (.int z.length) H):=by
 intro pins s σ H xs us Q I r h;obtain⟨z,rfl,hz,q⟩:=h;obtain⟨u,rfl,t,rfl⟩:=wY r;have hn:=rB;exact len_str ⋯ ⟨.int z.length,H,I.tok _,⟨_,rfl⟩,q⟩
theorem cX:iy X (.type "list") (λxs H Q=>∃p ys,xs=[.ref p]/\(aT X.K H p ys\/aV X.K H p ys)/\∀l,H l=none->Q (.ref l) (aC H l (.lst ys))):=by
 intro k s σ H xs us Q I r h;obtain⟨p,ys,rfl,hq,q⟩:=h;obtain⟨u,rfl,G⟩:=wY r;cases G;have x:∀(a:Nw),bq ys a->ys.length<=sizeLine->∀(c:Heap) (j:Nat),(∀b o',s.heap.get? b=some o'->c.get? b=some o') ->
   c.get? s.heap.objs.size=some {cls:=.type "list",dict:=none,data:=.seq a.toArray j,slots:=#[]}->EP X k σ Q (.ref s.heap.objs.size) {s with heap:=c }:=λa g m c j kp e=>
  ⟨.ref s.heap.objs.size,_,I.laid (t':=s.toks) kp (MU _) (show bQ X.prog X.w _ c _ (.lst ys) from⟨m,a,j,g,e⟩),rfl,q _ (I.hok.fresh (MU _))⟩
 rcases hq with hq | hq
 ·obtain⟨a,g,y,m⟩:=I.list hq
  have v:=g.length;obtain⟨o,B,D,n,C⟩:=y.isList;exact call_list_seq p (.inl rfl) B D C (λc j kp e=>x a g m c j kp e) (by simp only[ME]<;>omega)
 ·obtain⟨a,g,y,m⟩:=I.tuple hq
  have v:=g.length;obtain⟨o,B,D,n,C⟩:=y;exact call_list_seq p (.inr rfl) B D C (λc j kp e=>x a g m c j kp e) (by simp only[ME]<;>omega)
theorem tE:iy X (.type "tuple") (λxs H Q=>∃p ys,xs=[.ref p]/\((aT X.K H p ys/\∀l,H l=none->Q (.ref l) (aC H l (.tup ys)))\/(aV X.K H p ys/\Q (.ref p) H))):=by
 intro a s σ H xs us Q I r h;obtain⟨p,ys,rfl,h⟩:=h;obtain⟨u,rfl,x⟩:=wY r;cases x;rcases h with⟨m,q⟩ | ⟨m,q⟩
 ·obtain⟨c,j,k,n⟩:=I.list m
  have hlen:=j.length;refine call_tuple_list k.isList (λg kp=>?_) (by simp only[ME]<;>omega);have v:Inv X a σ H {s with heap:=g }:=I.kept (t':=s.toks) kp;have y:Inv X a σ (aC H g.objs.size (.tup ys)) {s with heap:=g.push {cls:=.type "tuple",data:=.seq c.toArray} }:=
   v.laid (t':=s.toks) (λb o e=>Mx _ e) (MU _) (show bQ X.prog X.w _ _ _ (.tup ys) from⟨n,c,j,IsTup.new _ _⟩)
  exact⟨.ref g.objs.size,_,y,rfl,q _ (v.hok.fresh (MU _))⟩
 ·obtain⟨c,j,k,n⟩:=I.tuple m
  exact call_tuple_same k ⟨.ref p,H,I,rfl,q⟩
def JN(K:Nr)(T:String)(x:V)(H:Hp):Prop:=match x with
 | .str _=>T="str"
 | .int _=>T="int"
 | .ref p=>(T="list"/\∃xs,aT K H p xs)\/(T="tuple"/\∃o,K.lookup p=some o/\o.cls=.type "tuple"/\o.dict=none) \/
   (T="dict"/\((∃kvs,H p=some (.dK kvs))\/∃kvs,H p=some (.dT kvs)))\/(T="set"/\∃S n,H p=some (.set S n))
 |_=>False
theorem HH{pins:Nt}{σ:St}(I:Inv X pins σ H s)(r:bv x v)(ty:JN X.K T x H) :
  s.TypeIs v T/\∀a,v=.ref a->∃ob,s.heap.get? a=some ob/\ob.dict=none:=by
 cases x with
 |str z=>
  obtain⟨t,rfl⟩:=r;cases(show T="str" from ty);exact⟨typeIs_str s z t,λ_ e=>nomatch e⟩
 |int i=>
  obtain⟨t,rfl⟩:=r;cases(show T="int" from ty);exact⟨typeIs_int s i t,λ_ e=>nomatch e⟩
 |ref p=>
  cases r;rcases ty with⟨rfl,xs,q⟩ | ⟨rfl,o,b,u,k⟩ | ⟨rfl,b⟩ | ⟨rfl,S,n,b⟩
  ·obtain⟨its,_,m,_⟩:=I.list q
   refine⟨m.isList.typeIs,λa e=>?_⟩;cases e;obtain⟨o,n,e,c,k,_⟩:=m;exact⟨o,e,k⟩
  ·refine⟨⟨o,I.kIn p o b,u⟩,λa e=>?_⟩
   cases e;exact⟨o,I.kIn _ o b,k⟩
  ·have z:∃o,s.heap.get? p=some o/\o.ExactDict:=by
    rcases b with⟨j,b⟩ | ⟨j,b⟩
    ·obtain⟨_,_,_,_,o,_,_,e,g,_⟩:=I.hok p _ b
     exact⟨o,e,g⟩
    ·obtain⟨_,_,_,_,o,_,_,e,g,_⟩:=I.hok p _ b
     exact⟨o,e,g⟩
   obtain⟨o,e,g⟩:=z;refine⟨⟨o,e,g.1⟩,λa l=>?_⟩;cases l;exact⟨o,e,g.2.1⟩
  ·obtain⟨o,_,_,_,e,g,_⟩:=I.hok p _ b
   refine⟨⟨o,e,g.1⟩,λa l=>?_⟩;cases l;exact⟨o,e,g.2.1⟩
 |_=>exact False.elim ty
def Je(K:Nr)(T:String)(r:V->List V->Hp->VK->Prop)(to:TE)(t:TA):TE:=λσ H Q=>to σ H λx H1=>JN K T x H1/\t σ H1 λxs H2=>r x xs H2 Q
variable {o e:Expr}{es:NH}{to:TE}{t:TA}{name:Str}{apos cpos:Pos}{T id:String}{r:V->List V->Hp->VK->Prop}
theorem jO(pa:PlainAttrs T)(slot:Slot T name id)(hty:typeOf (.builtin id)=pure (.type "method_descriptor"))(hm:J9 X id r)(ho:PE X o to)(ha:PA X (e::es) t)
  (hbase:autoParam (attributeBase o name X.env (eval o X.env)=eval o X.env) zz0._auto_1)
  (hfew:autoParam (((backTo cpos (starEach (e::es) X.env)).all (λx=>!x.1)&&(backToKw cpos (keywordEach [] X.env)).all (λx=>x.1.isSome)
   && decide ((e::es).length+([]:List Keyword).length+(if([]:List Keyword).isEmpty then 0 else 1)<30))=true) zz0._auto_1)
  (hline:autoParam ((apos.endLine==cpos.line)=true) zz0._auto_1) (hs:autoParam (starEach (e::es) X.env=(false,eval e X.env)::starEach es X.env) zz0._auto_1) (hplain:autoParam ((backTo cpos (starEach es X.env)).any (·.1)=false) zz0._auto_1) :
  PE X (.Call (.Attribute o name apos) (e::es) [] cpos) (Je X.K T r to t):=by
 intro a s σ H Q I h;refine wpAny_Call_method_late hbase hfew hline rfl (bZ (ho a s σ H _ I h) λv k ⟨x,u,g,b,ty,n⟩=>?_);obtain⟨h1,h2⟩:=HH g b ty;refine⟨T,id,pa,slot,hty,h1,h2,?_⟩;have c:=ha cpos a k σ u _ g n;rw[hs]at c ⊢;refine Calls.callWith_builtin (by show(false||(backTo cpos (starEach es X.env)).any (·.1))=false;rw[hplain]<;>rfl) (Calls.evalArgs_plain ?_);exact bZ c λus j ⟨vs,q,p,l,m⟩=>hm a j σ q x vs v us Q p b l m
end
def JY(X:Cx)(id:String)(r:V->List V->Hp->VK->Prop):Prop:=
 ∀(pins:Nt) (s:Nv) (σ:St) (H:Hp) (x:V) (xs:List V) (v:Value) (us:Nw) (Q:VK),Inv X pins σ H s->bv x v->bq xs us->r x xs H Q ->
  wpAny (model X.prog X.w) X.A (call (.builtin id) (v::us)) (EP X pins σ Q) X.xe s
theorem bq.one{x:V}{us:Nw}(h:bq [x] us):∃u,us=[u]/\bv x u:=by
 cases h with | cons r h=>cases h;exact⟨_,rfl,r⟩
theorem bq.two{x y:V}{us:Nw}(h:bq [x,y] us):∃u v,us=[u,v]/\bv x u/\bv y v:=by
 cases h with | cons r h=>obtain⟨u,rfl,q⟩:=bq.one h;exact⟨_,_,rfl,r,q⟩
theorem bq.zero:∀{us:Nw},bq [] us->us=[]
 |_,.nil=>rfl
section
variable {X:Cx}{pins:Nt}{σ:St}{H:Hp}{s:Nv}{l b:Addr}{xs ys zs:List V}
theorem Inv.lset{its its':Nw}{f:Array Value->Array Value}{t':Nat}(I:Inv X pins σ H s)(hH:H l=some (.lst xs))
  (e:s.heap.get? l=some {cls:=.type "list",data:=.seq its.toArray n}) (hf:f its.toArray=its'.toArray) (hv:bq ys its') (hz:ys.length<=sizeLine) :
  Inv X pins σ (aC H l (.lst ys)) {s with heap:=s.heap.update l (Obj.mapSeq f),toks:=t' }:=by
 have q:=PySem.IsL.update e f;rw[hf]at q;refine I.write (x:=l) (e:=l) (by rw[hH];exact trivial) (.inl rfl) (λb' u b a=>(MC s.heap (Obj.mapSeq f) (Ne.symm b)).trans a) ⟨_,q⟩ ?_;exact⟨hz,its',_,hv,q⟩
theorem Inv.lnew{its:Nw}{t':Nat}(I:Inv X pins σ H s)(hv:bq ys its)(hz:ys.length<=sizeLine) :
  Inv X pins σ (aC H s.heap.objs.size (.lst ys)) {s with heap:=s.heap.push {cls:=.type "list",data:=.seq its.toArray},toks:=t' }:=
 I.laid (λ_ _ q=>Mx _ q) (MU _) ⟨hz,its,0,hv,MD _ rfl⟩
theorem Inv.fresh(I:Inv X pins σ H s):H s.heap.objs.size=none:=I.hok.fresh (MU _)
theorem Inv.lstM(I:Inv X pins σ H s)(hH:H l=some (.lst xs)):xs.length<=sizeLine/\∃(its:Nw) (n:Nat),bq xs its/\xs.length=its.length/\s.heap.get? l=some {cls:=.type "list",data:=.seq its.toArray n}:=by
 obtain⟨z,its,n,r,e⟩:=I.hok l _ hH;exact⟨z,its,n,r,r.length,e⟩
theorem DG{n:Nat}(h:n<=sizeLine):Builtin.List.listTooLong n=false:=by
 unfold Builtin.List.listTooLong;exact q08 ⋯
end
section
variable {X:Cx}
def vF:V->List V->Hp->VK->Prop:=λx vs H Q=>∃l xs y,x=.ref l/\vs=[y]/\H l=some (.lst xs)/\xs.length<sizeLine/\Q .non (aC H l (.lst (xs++[y])))
theorem dn:JY X "list.append" vF:=by
 intro pins s σ H x vs v us Q I rx rv h;obtain⟨l,xs,y,rfl,rfl,b,hz,q⟩:=h;cases rx;obtain⟨u,rfl,c⟩:=rv.one;obtain⟨z,a,n,r,hl,e⟩:=I.lstM b;refine call_meets F.slot_list_append ⟨_,e,rfl⟩ F.entry_list_append (F.args_list_append_2 _ _) (PySem.list_append l a.toArray n u (by rw[ME];omega)) ⟨e,?_⟩;refine⟨.non,_,I.lset (its':=a++[u]) b e (by simp) (r.append (.cons c .nil)) ?_,rfl,q⟩;rw[MT,q0U];omega
theorem q03{e:Expr}{es:List Expr}{to:TE}{t:TA}{apos cpos:Pos}(ho:PE X o to)(ha:PA X (e::es) t)
  (hbase:autoParam (attributeBase o "append" X.env (eval o X.env)=eval o X.env) zz0._auto_1)
  (hfew:autoParam (((backTo cpos (starEach (e::es) X.env)).all (λx=>!x.1)&&(backToKw cpos (keywordEach [] X.env)).all (λx=>x.1.isSome)
   && decide ((e::es).length+([]:List Keyword).length+(if([]:List Keyword).isEmpty then 0 else 1)<30))=true) zz0._auto_1)
  (hline:autoParam ((apos.endLine==cpos.line)=true) zz0._auto_1) (hs:autoParam (starEach (e::es) X.env=(false,eval e X.env)::starEach es X.env) zz0._auto_1) (hplain:autoParam ((backTo cpos (starEach es X.env)).any (·.1)=false) zz0._auto_1) :
  PE X (.Call (.Attribute o "append" apos) (e::es) [] cpos) (Je X.K "list" vF to t):=jO PySem.F.plainAttrs_list PySem.F.slot_list_append PySem.F.type_list_append dn ho ha hbase hfew hline hs hplain
def wx:V->List V->Hp->VK->Prop:=λx vs H Q=>∃l b xs zs,x=.ref l/\vs=[.ref b]/\H l=some (.lst xs)/\H b=some (.lst zs)/\xs.length+zs.length<=sizeLine/\Q .non (aC H l (.lst (xs++zs)))
theorem BL:JY X "list.extend" wx:=by
 intro pins s σ H x vs v us Q I rx rv h;obtain⟨l,b,xs,zs,rfl,rfl,k,w,hz,q⟩:=h;cases rx;obtain⟨u,rfl,m⟩:=rv.one;cases m;obtain⟨z,c,n,r,hl,e⟩:=I.lstM k;obtain⟨z2,a,p,o,hl2,y⟩:=I.lstM w;have j:c.toArray.size+a.toArray.size<=sizeLine:=by rw[ME,ME];omega
 have g:¬ (!c.toArray.isEmpty&&Builtin.List.listTooLong (c.toArray.size+a.toArray.size))=true:=by
  rw[DG j,Bool.and_false];exact MW
 refine call_meets F.slot_list_extend ⟨_,e,rfl⟩ F.entry_list_extend (F.args_list_extend_2 _ _)
  (AutoSeq1.list_extend_list_list_0 l c.toArray n b a.toArray p g (by rw[ME];omega) ⋯) ⟨e,y,?_⟩
 refine⟨.non,_,I.lset (its':=c++a) k e (by simp) (r.append o) ?_,rfl,q⟩;rw[MT];omega
def G9:R2:=λx y H Q=>∃l b xs zs,x=.ref l/\y=.ref b/\H l=some (.lst xs)/\H b=some (.lst zs)/\xs.length+zs.length<=sizeLine/\∀p,H p=none->Q (.ref p) (aC H p (.lst (xs++zs)))
theorem oM:br X (binaryOp .Add) G9:=by
 intro pins s σ H x y v u Q I rx ry h;obtain⟨l,b,xs,zs,rfl,rfl,j,k,hz,q⟩:=h;cases rx;cases ry;obtain⟨z,c,n,r,hl,e⟩:=I.lstM j;obtain⟨z2,a,n2,g,hl2,o⟩:=I.lstM k;refine PySem.P.add_list e o ?_ (by rw[ME,ME];omega);have m:c.toArray++a.toArray=(c++a).toArray:=by simp
 rw[m];exact⟨.ref _,_,I.lnew (t':=s.toks) (r.append g) (by rw[MT];omega),rfl,q _ I.fresh⟩
end
section
variable {κ:Type}[DecidableEq κ]
def cz(kvs:List (κ×V))(k:κ):Option V:=(kvs.find? λkv=>decide (kv.1=k)).map (·.2)
def cN(kvs:List (κ×V))(k:κ)(v:V):List (κ×V):=
 if(kvs.any λkv=>decide (kv.1=k))=true then kvs.map (λkv=>if kv.1=k then(kv.1,v) else kv) else kvs++[(k,v)]
theorem c8{p:κ×V}{r:List (κ×V)}{k:κ}(e:p.1=k):cz (p::r) k=some p.2:=by simp[cz,List.find?_cons,e]
theorem c5{p:κ×V}{r:List (κ×V)}{k:κ}(e:¬ p.1=k):cz (p::r) k=cz r k:=by simp[cz,List.find?_cons,e]
theorem fT(k:κ):∀kvs:List (κ×V),(kvs.any λkv=>decide (kv.1=k))=(cz kvs k).isSome
 | []=>rfl
 |p::r=>by
  rw[List.any_cons]
  by_cases e:p.1=k
  ·simp only[c8 e,q09 e,Bool.true_or,Option.isSome_some]
  ·rw[c5 e,q08 e,Bool.false_or];exact fT k r
theorem x4(k j:κ)(y:V):∀kvs:List (κ×V),cz (kvs.map λkv=>if kv.1=k then(kv.1,y) else kv) j=(cz kvs j).map λx=>if j=k then y else x
 | []=>rfl
 |p::r=>by
  have ih:=x4 k j y r;rw[M4]
  by_cases h:p.1=k
  ·rw[q07 h]
   by_cases e:p.1=j
   ·rw[c8 (p:=(p.1,y)) e,c8 e,Option.map_some,q07 (e.symm.trans h)]
   ·rw[c5 (p:=(p.1,y)) e,c5 e,ih]
  ·rw[q06 h]
   by_cases e:p.1=j
   ·rw[c8 (p:=p) e,c8 e,Option.map_some,q06 (λz=>h (e.trans z))]
   ·rw[c5 (p:=p) e,c5 e,ih]
theorem uB(k j:κ)(y:V):∀kvs:List (κ×V),cz kvs k=none->cz (kvs++[(k,y)]) j=if j=k then some y else cz kvs j
 | [],_=>by
  by_cases e:k=j
  ·rw[q07 e.symm];exact c8 (p:=(k,y)) e
  ·rw[q06 (λz=>e z.symm)];exact c5 (p:=(k,y)) e
 |p::r,hn=>by
  rw[List.cons_append];have hk:¬ p.1=k:=λz=>by rw[c8 z]at hn;cases hn
  rw[c5 hk]at hn;have ih:=uB k j y r hn
  by_cases e:p.1=j
  ·rw[c8 e,c8 e,q06 (λz=>hk (e.trans z))]
  ·rw[c5 e,c5 e,ih]
theorem nc(kvs:List (κ×V))(k j:κ)(y:V):cz (cN kvs k y) j=if j=k then some y else cz kvs j:=by
 unfold cN
 by_cases a:(kvs.any λb=>decide (b.1=k))=true
 ·rw[q07 a,x4]
  rw[fT]at a
  by_cases e:j=k
  ·obtain⟨x,c⟩:=Option.isSome_iff_exists.mp a
   rw[q07 e,e,c,Option.map_some,q07 rfl]
  ·rw[q06 e]
   cases cz kvs j with
   |none=>rfl
   |some x=>rw[Option.map_some,q06 e]
 ·rw[q06 a]
  refine uB k j y kvs ?_;rw[fT]at a;cases q:cz kvs k with
  |none=>rfl
  |some x=>rw[q]at a;exact(a rfl).elim
theorem ic(kvs:List (κ×V))(k:κ)(v:V):(cN kvs k v).length<=kvs.length+1:=by
 unfold cN
 split
 ·rw[My];omega
 ·rw[MT,MI,List.length_nil];omega
theorem rp{kvs:List (κ×V)}{k:κ}(v:V)(h:cz kvs k=none):cN kvs k v=kvs++[(k,v)]:=by
 unfold cN;rw[fT,h];exact q06 nofun
theorem kX.isSome_eq(r:kX o u):o.isSome=u.isSome:=by
 cases o with
 |none=>cases u with
  |none=>rfl
  |some _=>exact(show False from r).elim
 |some _=>cases u with
  |none=>exact(show False from r).elim
  |some _=>rfl
theorem KV.val{kvs:List (κ×V)}{vs:List (κ×Value)}(r:KV kvs vs)(k:κ):kX (cz kvs k) (valueAt vs k):=by
 unfold KV at r
 induction r with
 |nil=>exact True.intro
 | @cons p q ps qs h t ih=>
  obtain⟨h1,h2⟩:=h
  by_cases e:p.1=k
  ·have a:q.1=k:=h1.symm.trans e
   have b:valueAt (q::qs) k=some q.2:=by simp[valueAt,List.find?_cons,a]
   rw[c8 e,b];exact h2
  ·have a:¬ q.1=k:=λz=>e (h1.trans z)
   have b:valueAt (q::qs) k=valueAt qs k:=by simp[valueAt,List.find?_cons,a]
   rw[c5 e,b];exact ih
theorem KV.any{kvs:List (κ×V)}{vs:List (κ×Value)}(r:KV kvs vs)(k:κ):(kvs.any λkv=>decide (kv.1=k))=vs.any λkv=>decide (kv.1=k):=by
 unfold KV at r
 induction r with
 |nil=>rfl
 |cons h t ih=>rw[List.any_cons,List.any_cons,ih,h.1]
theorem KV.repl{kvs:List (κ×V)}{vs:List (κ×Value)}(r:KV kvs vs)(k:κ){y:V}{u:Value}(ry:bv y u) :
  KV (kvs.map λkv=>if kv.1=k then(kv.1,y) else kv) (vs.map λkv=>if kv.1=k then(kv.1,u) else kv):=by
 unfold KV at r ⊢
 induction r with
 |nil=>exact .nil
 | @cons p q ps qs h t ih=>
  rw[M4,M4];refine .cons ?_ ih;obtain⟨h1,h2⟩:=h
  by_cases e:p.1=k
  ·rw[q07 e,q07 (h1.symm.trans e)];exact⟨h1,ry⟩
  ·rw[q06 e,q06 (λz=>e (h1.trans z))];exact⟨h1,h2⟩
theorem KV.put{kvs:List (κ×V)}{vs:List (κ×Value)}(r:KV kvs vs)(k:κ){y:V}{u:Value}(ry:bv y u):KV (cN kvs k y) (stored vs k u):=by
 unfold cN stored;rw[r.any k]
 by_cases e:(vs.any λa=>decide (a.1=k))=true
 ·rw[q07 e,q07 e];exact r.repl k ry
 ·rw[q06 e,q06 e];exact Paired.snoc r ⟨rfl,ry⟩
theorem KV.length{kvs:List (κ×V)}{vs:List (κ×Value)}(r:KV kvs vs):kvs.length=vs.length:=Paired.length r
end
theorem tV{u:Value}(r:bv (kV k) u):(cO P w).is k u=true:=by
 cases k with
 |inl i=>obtain⟨t,e⟩:=(show ∃t,u=Value.int i t from r);subst e;exact xS P w i t
 |inr x=>obtain⟨t,e⟩:=(show ∃t,u=Value.str x t from r);subst e;exact wT P w x t
theorem tS:∀{ks:List dm} {us:Nw},bq (ks.map kV) us->ItemsAre (cO P w) ks us
 | [],_,r=>by rw[List.map_nil]at r;cases r;exact .nil
 |k::ks,_,r=>by
  rw[M4]at r;cases r with
  |cons h t=>exact .cons (tV h) (tS t)
abbrev KT(H:Hp):List (List dm×V)->List (List dm×Addr×Value)->Prop:=Paired λp q=>p.1=q.1/\H q.2.1=some (.tup (p.1.map kV))/\bv p.2 q.2.2
theorem KT.val(r:KT H kvs xs)(k:List dm):kX (cz kvs k) ((atKey xs k).map (·.2)):=by
 induction r with
 |nil=>exact True.intro
 | @cons p q ps qs h t ih=>
  obtain⟨h1,_,h2⟩:=h
  by_cases e:p.1=k
  ·have a:q.1=k:=h1.symm.trans e
   have b:atKey (q::qs) k=some q.2:=by simp[atKey,List.find?_cons,a]
   rw[c8 e,b];exact h2
  ·have a:¬ q.1=k:=λz=>e (h1.trans z)
   have b:atKey (q::qs) k=atKey qs k:=by simp[atKey,List.find?_cons,a]
   rw[c5 e,b];exact ih
theorem KT.repl(r:KT H kvs xs)(k:List dm){y:V}{u:Value}(ry:bv y u) :
  KT H (kvs.map λkv=>if kv.1=k then(kv.1,y) else kv) (xs.map (putAt k u)):=by
 induction r with
 |nil=>exact .nil
 | @cons p q ps qs h t ih=>
  rw[M4,M4];refine .cons ?_ ih;obtain⟨h1,h2,a⟩:=h;unfold putAt
  by_cases e:p.1=k
  ·rw[q07 e,q07 (h1.symm.trans e)];exact⟨h1,h2,ry⟩
  ·rw[q06 e,q06 (λz=>e (h1.trans z))];exact⟨h1,h2,a⟩
theorem KT.put(r:KT H kvs xs)(k:List dm){b:Addr}{y:V}{u:Value}(hb:H b=some (.tup (k.map kV)))(ry:bv y u) :
  KT H (cN kvs k y) (storedH xs k b u):=by
 have e:(kvs.any λa=>decide (a.1=k))=(atKey xs k).isSome:=by
  rw[fT,(r.val k).isSome_eq,Option.isSome_map]
 unfold cN storedH;rw[e]
 by_cases q:(atKey xs k).isSome=true
 ·rw[q07 q,q07 q];exact r.repl k ry
 ·rw[q06 q,q06 q];exact Paired.snoc r ⟨rfl,hb,ry⟩
theorem KT.keeps{H':Hp}(r:KT H kvs xs)(ht:∀b ys,H b=some (.tup ys)->H' b=some (.tup ys)):KT H' kvs xs:=
 Paired.mapP r λ_ _ z=>⟨z.1,ht _ _ z.2.1,z.2.2⟩
section
variable {P:NC}{w:NF}{H:Hp}{h:Heap}{a:Addr}
theorem G1(ok:ly P w H h)(e:Rd H a u):bQ P w H h a u:=e.ok ok
theorem uE(ok:ly P w H h)(e:Rd H a (.dK kvs)):kvs.length<=sizeLine/\(a==sysModules)=false/\∃vs,KV kvs vs/\h.DictOf (cO P w) a vs:=
 show bQ P w H h a (.dK kvs) from G1 ok e
theorem EZ(ok:ly P w H h)(e:H a=some (.dK kvs)):kvs.length<=sizeLine/\(a==sysModules)=false/\∃vs,KV kvs vs/\h.DictOf (cO P w) a vs:=uE ok (.inl e)
theorem wI{ks:List dm}(ok:ly P w H h)(e:H a=some (.tup (ks.map kV))):(tupleKind (cO P w)).is h ks a:=by
 obtain⟨_,b,r,o,h1,h2,n,c⟩:=(show bQ P w H h a (.tup (ks.map kV)) from ok a _ e);exact⟨o,b.toArray,n,h1,h2,c,by simpa using tS r⟩
theorem x8(ok:ly P w H h)(e:Rd H a (.dT kvs)):kvs.length<=sizeLine/\(a==sysModules)=false /\
  ∃xs,KT H kvs xs/\h.DictOfH (tupleKind (cO P w)) a xs:=by
 obtain⟨z,y,xs,r,o,j,k,h1,h2,g,c,b⟩:=(show bQ P w H h a (.dT kvs) from G1 ok e);refine⟨z,y,xs,r,o,j,k,h1,h2,g,c,λx hx=>?_,b⟩;have all:∀{l:List (List dm×V)} {m:List (List dm×Addr×Value)},KT H l m->∀x∈m,(tupleKind (cO P w)).is h x.1 x.2.1:=by
  intro l m q
  induction q with
  |nil=>intro x hx;exact nomatch hx
  | @cons p q ps qs hq t ih=>
   intro x hx;rcases MM.mp hx with e | hx
   ·subst e
    exact wI ok (by rw[<- hq.1];exact hq.2.1)
   ·exact ih x hx
 exact all r x hx
theorem Iq(ok:ly P w H h)(e:H a=some (.dT kvs)):kvs.length<=sizeLine/\(a==sysModules)=false /\
  ∃xs,KT H kvs xs/\h.DictOfH (tupleKind (cO P w)) a xs:=x8 ok (.inl e)
end
def p_(H:Hp)(a:Addr)(y:V)(r:Option V):Prop:=
 (∃kvs k,Rd H a (.dK kvs)/\y=kV k/\r=cz kvs k)\/∃kvs k b,Rd H a (.dT kvs)/\y=.ref b/\H b=some (.tup (k.map kV))/\r=cz kvs k
def BH(H:Hp)(a:Addr)(y v:V)(H':Hp):Prop:=
 (∃kvs k,H a=some (.dK kvs)/\y=kV k/\kvs.length<sizeLine/\H'=aC H a (.dK (cN kvs k v))) \/
 ∃kvs k b,H a=some (.dT kvs)/\y=.ref b/\H b=some (.tup (k.map kV))/\kvs.length<sizeLine/\H'=aC H a (.dT (cN kvs k v))
theorem p_.t{H:Hp}{k:List dm}(e:H a=some (.dT kvs))(eb:H b=some (.tup (k.map kV))):p_ H a (.ref b) (cz kvs k):=.inr ⟨kvs,k,b,.inl e,rfl,eb,rfl⟩
theorem BH.t{H:Hp}{k:List dm}{v:V}(e:H a=some (.dT kvs))(eb:H b=some (.tup (k.map kV)))(hl:kvs.length<sizeLine) :
  BH H a (.ref b) v (aC H a (.dT (cN kvs k v))):=.inr ⟨kvs,k,b,e,rfl,eb,hl,rfl⟩
section
variable {X:Cx}{pins:Nt}{σ:St}{H:Hp}{s:Nv}{a:Addr}{y v:V}{u r:Value}{o:Option V}{A:NE}{E:Nq}
theorem Inv.big(I:Inv X pins σ H s):sysModules<s.heap.objs.size:=by
 have h:mainGlobals<s.heap.objs.size:=(I.mod.glob.keeps I.bk).lt;exact Nat.lt_trans nofun h
theorem Cy{Q:Nq}(hu:A.units+1<cLine)(I:Inv X pins σ H s)(g:p_ H a y (some v))(ry:bv y u)(h:∀w' s',Inv X pins σ H s'->bv v w'->Q w' s') :
  wpAny (model X.prog X.w) A (getItem (.ref a) u) Q E s:=by
 rcases g with⟨m,k,e,r,l⟩ | ⟨m,k,b,e,r,D,l⟩
 ·subst r
  obtain⟨z,C,vs,j,w⟩:=uE I.hok e;obtain⟨w',n,c⟩:=kX.some_of (v:=v) (o:=valueAt vs k) (by rw[l];exact j.val k);exact wpAny_getItem_of (tV ry) w.mapOf n (h w' _ (I.tok _) c)
 ·subst r
  cases(show u=Value.ref b from ry);obtain⟨z,C,x,j,w⟩:=x8 I.hok e;obtain⟨w',n,c⟩:=kX.some_of (v:=v) (o:=(atKey x k).map (·.2)) (by rw[l];exact j.val k);obtain⟨p,B,q⟩:=MY.mp n;refine wpAny_getItem_heap (tupleKind_room_in1 hu) (wI I.hok D) w B ?_;rw[q];exact h w' _ (I.tok _) c
theorem Gk{Q:Nq}(hu:A.units+1<cLine)(I:Inv X pins σ H s)(g:p_ H a y o)(ry:bv y u)(h:∀s',Inv X pins σ H s'->Q (.bool (!o.isSome)) s') :
  wpAny (model X.prog X.w) A (compareOp .NotIn u (.ref a)) Q E s:=by
 rcases g with⟨j,k,e,n,l⟩ | ⟨j,k,b,e,n,r,l⟩
 ·subst n
  obtain⟨z,m,vs,c,p⟩:=uE I.hok e;refine wpAny_notIn_of (tV ry) m p.mapOf ?_;rw[<- (c.val k).isSome_eq,<- l];exact h _ (I.tok _)
 ·subst n
  cases(show u=Value.ref b from ry);obtain⟨z,m,xs,c,p⟩:=x8 I.hok e;refine wpAny_notIn_heap (tupleKind_room_in1 hu) (wI I.hok r) m p ?_;have q:=(c.val k).isSome_eq;rw[Option.isSome_map]at q;rw[<- q,<- l];exact h _ (I.tok _)
theorem qv{t':Nat}{ob:HO}(I:Inv X pins σ H s)(mu:I0 (H a))(hs:Heap.SameBut a s.heap h')(he:∃q,h'.get? a=some q)(new:bQ X.prog X.w (aC H a ob) h' a ob) :
  Inv X pins σ (aC H a ob) {s with heap:=h',toks:=t' }:=
 I.write (x:=a) (e:=a) mu (.inl rfl) (λb q hb z=>(hs.2 b hb).trans z) he new
theorem Ai{h':Heap}{kvs:List (dm×V)}(z:kvs.length<=sizeLine)(hd:(a==sysModules)=false)(rel:KV kvs vs)(dd:h'.DictOf (cO P w) a vs) :
  bQ P w H' h' a (.dK kvs):=⟨z,hd,vs,rel,dd⟩
theorem Bs{Q:Unit->Shared->Prop}(hu:A.units+1<cLine)(I:Inv X pins σ H s)(g:BH H a y v H')(ry:bv y u)(rv:bv v r)(h:∀s',Inv X pins σ H' s'->Q () s') :
  wpAny (model X.prog X.w) A (setItem (.ref a) u r) Q E s:=by
 rcases g with⟨m,k,e,C,l,D⟩ | ⟨m,k,b,e,C,M,l,D⟩
 ·subst C D
  obtain⟨z,B,vs,j,G⟩:=EZ I.hok e;have p:vs.length<=sizeLine:=by rw[<- j.length];exact z
  have x:(cN m k v).length<=sizeLine:=by have:=ic m k v;omega
  refine wpAny_setItem_pairs (hsz:=p) (tV ry) G λJ n w=>h _ ?_;have R:∃q,J.get? a=some q:=let ⟨q,_,_,o,_⟩:=n;⟨q,o⟩
  exact qv I (by rw[e];exact True.intro) w R (Ai x B (j.put k rv) n)
 ·subst C D
  cases(show u=Value.ref b from ry);obtain⟨z,B,O,j,G⟩:=Iq I.hok e;have p:O.length<=sizeLine:=by rw[<- Paired.length j];exact z
  have x:(cN m k v).length<=sizeLine:=by have:=ic m k v;omega
  refine wpAny_setItem_heap (hsz:=p) (tupleKind_room_in1 hu) (wI I.hok M) G λJ n w=>h _ ?_;obtain⟨q,Y,Z,o,h2,U,T,_,S⟩:=n;refine qv I (by rw[e];exact True.intro) w ⟨q,o⟩ ⟨x,B,_,(j.put k M rv).keeps λc ys L=>?_,q,Y,Z,o,h2,U,T,S⟩;rw[aq (IK L e (λz=>nomatch z))];exact L
end
section
variable {X:Cx}{pins:Nt}{σ:St}{H:Hp}{s:Nv}{a:Addr}{kvs:List (dm×V)}{k:dm}{u:Value}{A:NE}{E:Nq}
theorem IQ{Q:Nq}(I:Inv X pins σ H s)(e:Rd H a (.dK kvs))(h:∀t s',Inv X pins σ H s'->Q (.int kvs.length t) s'):wpAny (model X.prog X.w) A (call (.builtin "len") [.ref a]) Q E s:=by
 obtain⟨z,c,vs,b,g⟩:=uE I.hok e;refine call_len_dict c g (by rw[<- b.length];rw[q0R]at z;omega) ?_;rw[<- b.length];exact h _ _ (I.tok _)
end
def IL(i:Expr):Prop:=∀ov iv,subscripted i false ov iv=operate [ov,iv] (getItem ov iv)
theorem Gg{prog:NC}{A:NE}{env:Env}{value slice:Expr}{pos:Pos}{id:String}{Q:Nq}
  (hl:typeLookup (.type T) "__getitem__"=pure (some (.builtin id))) (hs:IL slice)
  (h:wpAny (model prog w) A (eval value env) (λo s₁=>wpAny (model prog w) A (eval slice env) (λi s₂=>s₂.TypeIs o T/\wpAny (model prog w) A (getItem o i) Q E s₂) E s₁) E s) :
  wpAny (model prog w) A (eval (.Subscript value slice pos) env) Q E s:=by
 refine Subscript_ (q0S h (λo s₁ j=>q0S j (λi s₂ b=>?_) λ_ _ x=>x) λ_ _ x=>x);obtain⟨e,b⟩:=b;unfold subscriptTail;refine q04 ?_;rw[getitemInPython_of_ne e.not_modules];refine q04 (wpAny_specialOf e hl ?_);have a:wpAny (model prog w) A (subscripted slice false o i) (λr c=>wpAny (model prog w) A (letTemporaryGo value o r >>= λ_=>pure r) Q E c) E s₂:=by
  rw[hs o i];exact wpAny_operating (q0S b (λr c g=>q04 (wpAny_letTemporaryGo (q05 g))) λ_ _ x=>x)
 first
  |exact q05 (q04 a)
  |exact q04 (q05 (q04 a))
  |exact q04 a
theorem xy{pins:Nt}{σ:St}(I:Inv X pins σ H s)(g:p_ H a y o):s.TypeIs (.ref a) "dict":=by
 rcases g with⟨c,k,e,_,_⟩ | ⟨c,k,b,e,_,_,_⟩
 ·obtain⟨_,_,vs,_,j⟩:=uE I.hok e
  exact j.typeIs
 ·obtain⟨_,_,xs,_,j⟩:=x8 I.hok e
  exact j.typeIs
def Fc(td ty:TE):TE:=λσ H Q=>td σ H λx H1=>ty σ H1 λy H2=>∃a v,x=.ref a/\p_ H2 a y (some v)/\Q v H2
def vh(ty td:TE):TE:=λσ H Q=>ty σ H λy H1=>td σ H1 λx H2=>∃a o,x=.ref a/\p_ H2 a y o/\Q (.bl (!o.isSome)) H2
def EC(td ty tv:TE):TS:=λD σ H=>tv σ H λv H1=>td σ H1 λx H2=>ty σ H2 λy H3=>∃a H4,x=.ref a/\BH H3 a y v H4/\D.nx σ H4
section
variable {X:Cx}{o i e value:Expr}{pos pos' tpos:Pos}{td ty tv:TE}
theorem wg(hu:X.A.units+1<cLine)(ho:PE X o td)(hi:PE X i ty)(hs:IL i):PE X (.Subscript o i pos) (Fc td ty):=by
 intro b s σ H Q I h;refine Gg PySem.F.slot_dict_getitem.lookup hs (bZ (ho b s σ H _ I h) λu j ⟨x,B,r,l,n⟩=>bZ (hi b j σ B _ r n) λiv s2 ⟨y,w,e,k,a,v,p,g,m⟩=>?_);subst p;obtain rfl:u=Value.ref a:=l;exact⟨xy e g,Cy hu e g k λw' s3 q c=>⟨v,w,q,c,m⟩⟩
theorem uo(hu:X.A.units+1<cLine)(hi:PE X i ty)(ho:PE X o td):PC X .NotIn i o (vh ty td):=by
 intro b s σ H Q I h;refine bZ (hi b s σ H _ I h) λiv c ⟨y,w,r,e,l⟩=>bZ (ho b c σ w _ r l) λu s2 ⟨x,v,q,j,a,m,n,g,k⟩=>?_;subst n;obtain rfl:u=Value.ref a:=j;exact Gk hu q g e λs3 p=>⟨.bl (!m.isSome),v,p,rfl,k⟩
theorem Ax(hu:X.A.units+1<cLine)(ho:PE X o td)(hi:PE X i ty)(hv:PE X value tv)(hs:swapsWith value (some (.Subscript o i pos')) pos.line X.env=pure false) :
  PS X (.Assign [.Subscript o i pos'] value pos) (EC td ty tv):=by
 intro b s σ H D I h;refine wpAny_Assign_Subscript (bZ (hv b s σ H _ I h) λr e ⟨v,M,G,l,p⟩=>bZ (ho b e σ M _ G p) λu c ⟨x,L,C,k,n⟩=>bZ (hi b c σ L _ C n) λiv s3 ⟨y,H3,B,j,a,J,q,g,m⟩=>?_) hs;subst q;obtain rfl:u=Value.ref a:=k;exact Bs hu B g j l λs4 w=>⟨σ,J,w,m⟩
end
theorem D'(h:Heap)(hb:sysModules<h.objs.size):bQ P w H (h.push {cls:=.type "dict",data:=.dict #[]}) h.objs.size (.dK []):=
 ⟨MV _,beq_eq_false_iff_ne.mpr (Ne.symm (MQ hb)),[],.nil,Heap.DictOf.new h⟩
theorem D5(h:Heap)(hb:sysModules<h.objs.size):bQ P w H (h.push {cls:=.type "dict",data:=.dict #[]}) h.objs.size (.dT []):=
 ⟨MV _,beq_eq_false_iff_ne.mpr (Ne.symm (MQ hb)),[],.nil,_,#[],0,MD _ rfl,⟨rfl,rfl,rfl⟩,rfl,rfl,List.nodup_nil⟩
def Ad:TE:=λ_ H Q=>∀p,H p=none->Q (.ref p) (aC H p (.dT []))
section
variable {X:Cx}{pos:Pos}
theorem wV:PE X (.Dict [] [] pos) Ad:=λpins s σ H Q I h=>
 wpAny_Dict_empty ⟨.ref s.heap.objs.size,_,I.laid (a:=s.heap.objs.size) (o:=.dT []) (t':=s.toks) (λ_ _ q=>Mx _ q) (MU _) (D5 s.heap I.big),rfl,h _ (I.hok.fresh (MU _))⟩
end
def sF:List (TE×TE)->St->Hp->(List (V×V)->Hp->Prop)->Prop
 | [],_,H,Q=>Q [] H
 | (tk,tv)::r,σ,H,Q=>tk σ H λx H1=>tv σ H1 λy H2=>sF r σ H2 λps H3=>Q ((x,y)::ps) H3
abbrev VV:List (V×V)->List (Value×Value)->Prop:=Paired λp q=>bv p.1 q.1/\bv p.2 q.2
def Jg(X:Cx)(pos:Pos)(keys:List (Option Expr))(values:NH)(trs:List (TE×TE)):Prop:=
 ∀(pins:Nt) (s:Nv) (σ:St) (H:Hp) (Q:List (V×V)->Hp->Prop),Inv X pins σ H s->sF trs σ H Q ->
  wpAny (model X.prog X.w) X.A (evalPairs (pairTrees keys values X.env pos)) (λvs s'=>∃ps H',Inv X pins σ H' s'/\VV ps vs/\Q ps H') X.xe s
theorem FE{pos:Pos}:Jg X pos [] [] []:=λpins s σ H Q I h=>pairTrees_nil_walk ⟨[],H,I,.nil,h⟩
theorem Fo{pos:Pos}{k v:Expr}{ks:List (Option Expr)}{tk tv:TE}{trs:List (TE×TE)}(hk:PE X k tk)(hv:PE X v tv)(hr:Jg X pos ks vs trs) :
  Jg X pos (some k::ks) (v::vs) ((tk,tv)::trs):=λpins s σ H Q I h=>
 pairTrees_cons_walk (bZ (hk pins s σ H _ I h) λu s1 ⟨x,H1,I1,rx,q1⟩=>bZ (hv pins s1 σ H1 _ I1 q1) λw2 s2 ⟨y,H2,I2,ry,q2⟩=>
  bZ (hr pins s2 σ H2 _ I2 q2) λws s3 ⟨ps,H3,I3,rel,q3⟩=>⟨(x,y)::ps,H3,I3,.cons ⟨rx,ry⟩ rel,q3⟩)
def rZ(kvs more:List (dm×V)):List (dm×V):=more.foldl (λacc kv=>cN acc kv.1 kv.2) kvs
theorem KV.merge:∀{more:List (dm×V)} {rs:List (dm×Value)} {kvs:List (dm×V)} {vs:List (dm×Value)},KV more rs->KV kvs vs->KV (rZ kvs more) (merged vs rs):=by
 intro more rs kvs vs r;unfold KV at r
 induction r generalizing kvs vs with
 |nil=>intro q;exact q
 | @cons p q ps qs h t ih=>
  intro a;have e:KV (cN kvs p.1 p.2) (stored vs q.1 q.2):=by
   have:=a.put p.1 h.2;rw[<- h.1];exact this
  exact ih e
theorem mn:∀(more kvs:List (dm×V)),(rZ kvs more).length<=kvs.length+more.length
 | [],kvs=>by show kvs.length<=kvs.length+0;omega
 |p::r,kvs=>by
  have h1:=mn r (cN kvs p.1 p.2);have h2:=ic kvs p.1 p.2;show(rZ (cN kvs p.1 p.2) r).length<=_;rw[MI];omega
theorem qC:∀{kvs:List (dm×V)} {ws:List (Value×Value)},VV (kvs.map λkv=>(kV kv.1,kv.2)) ws->∃rs,Carries (cO P w) ws rs/\KV kvs rs
 | [],_,r=>by rw[List.map_nil]at r;cases r;exact⟨[],True.intro,.nil⟩
 |p::kvs,_,r=>by
  rw[M4]at r;cases r with
  | @cons a b as bs h t=>
   obtain⟨rs,c,q⟩:=qC (P:=P) (w:=w) t;obtain⟨b1,b2⟩:=b;exact⟨(p.1,b2)::rs,⟨tV h.1,rfl,c⟩,.cons ⟨rfl,h.2⟩ q⟩
def Ed(trs:List (TE×TE)):TE:=λσ H Q=>∀p,H p=none->sF trs σ (aC H p (.dK [])) λps H2=>H2 p=some (.dK [])/\∃kvs:List (dm×V),ps=kvs.map (λkv=>(kV kv.1,kv.2))/\kvs.length<=15/\Q (.ref p) (aC H2 p (.dK (rZ [] kvs)))
theorem Gw{pos:Pos}{keys:List (Option Expr)}{values:NH}{trs:List (TE×TE)}(h:Jg X pos keys values trs)(hall:keys.all (·.isSome)=true)(hl:keys.length=values.length)(h0:keys≠[])
  (h15:keys.length<=15):PE X (.Dict keys values pos) (Ed trs):=by
 intro b s σ H Q I q;have x:=I.hok.fresh (MU s.heap.objs.size);have G:=I.laid (a:=s.heap.objs.size) (o:=.dK []) (h':=s.heap.push {cls:=.type "dict",data:=.dict #[]}) (t':=s.toks) (λ_ _ q=>Mx _ q) (MU _) (D' s.heap I.big);refine wpAny_Dict_walk (knd:=cO X.prog X.w) hall hl h0 h15 (bZ (h b _ σ _ _ G (q _ x)) λws s2 ⟨ps,H2,l,k,e,g,C,lk,r⟩=>?_);subst C;obtain⟨m,c,n⟩:=qC (P:=X.prog) (w:=X.w) k;obtain⟨z,B,vs0,p,D⟩:=EZ l.hok e;cases p;refine⟨m,c,D,λh' j v=>⟨.ref s.heap.objs.size,_,?_,rfl,r⟩⟩;have u:(rZ [] g).length<=sizeLine:=by
  have h1:=mn g [];rw[List.length_nil]at h1;rw[q0R];omega
 have y:∃q,h'.get? s.heap.objs.size=some q:=let ⟨q,_,_,hq,_⟩:=j;⟨q,hq⟩
 exact qv l (by rw[e];exact True.intro) v y (Ai u B (n.merge .nil) j)
structure M1(X:Cx)(o:Expr)(m:Str)(apos:Pos)(e:Expr)(cpos:Pos):Prop where
 base:attributeBase o m X.env (eval o X.env)=eval o X.env
 few:((backTo cpos (starEach [e] X.env)).all (λx=>!x.1)&&(backToKw cpos (keywordEach [] X.env)).all (λx=>x.1.isSome)
  && decide (([e]:List Expr).length+([]:List Keyword).length+(if([]:List Keyword).isEmpty then 0 else 1)<30))=true
 line:(apos.endLine==cpos.line)=true
 trees:backTo cpos (starEach [e] X.env)=[(false,eval e X.env)]
structure M2(X:Cx)(o:Expr)(m:Str)(apos:Pos)(e f:Expr)(cpos:Pos):Prop where
 base:attributeBase o m X.env (eval o X.env)=eval o X.env
 few:((backTo cpos (starEach [e,f] X.env)).all (λx=>!x.1)&&(backToKw cpos (keywordEach [] X.env)).all (λx=>x.1.isSome)
  && decide (([e,f]:List Expr).length+([]:List Keyword).length+(if([]:List Keyword).isEmpty then 0 else 1)<30))=true
 line:(apos.endLine==cpos.line)=true
 trees:backTo cpos (starEach [e,f] X.env)=[(false,eval e X.env),(false,eval f X.env)]
def J1(H:Hp)(a:Addr):Prop:=(∃kvs,Rd H a (.dK kvs))\/∃kvs,Rd H a (.dT kvs)
theorem G8{pins:Nt}{σ:St}(I:Inv X pins σ H s)(d:J1 H a) :
  s.TypeIs (.ref a) "dict"/\(∀b,Value.ref a=.ref b->∃ob,s.heap.get? b=some ob/\ob.dict=none)/\(a==sysModules)=false:=by
 rcases d with⟨g,e⟩ | ⟨g,e⟩
 ·obtain⟨_,j,vs,_,c⟩:=uE I.hok e
  refine⟨c.typeIs,λb q=>?_,j⟩;cases q;obtain⟨ob,_,_,h1,h2,_⟩:=c;exact⟨ob,h1,h2.2.1⟩
 ·obtain⟨_,j,xs,_,c⟩:=x8 I.hok e
  refine⟨c.typeIs,λb q=>?_,j⟩;cases q;obtain⟨ob,_,_,h1,h2,_⟩:=c;exact⟨ob,h1,h2.2.1⟩
end L2
namespace Att
open PySem PySem.W PySem.Calls PyProof.Rows
theorem qm:∀(ns:List Int) (vs:Nw),WellAll P h vs (ns.map WData.int)->IntsAre vs ns:=by
 intro ns
 induction ns with
 |nil=>
  intro vs w;rw[List.map_nil]at w;cases w;exact .nil
 |cons n ns ih=>
  intro vs w;rw[M4]at w;cases w with
  |cons a b=>
   cases a;exact .cons _ _ (ih _ b)
theorem Ci{l:OpenLaw}{n:Nat}(hn:l.most=some n){P:Params}{h:Heap}{args:List WData}{vals:Nw}
  (hpre:l.row.toRowW.claim.pre args=true) (hwl:WellAll P h vals args) :
  ∃a vs ns,vals=[Value.ref a]/\args=[WData.list (ns.map WData.int)]/\h.get? a=some {cls:=.type "list",data:=.seq vs.toArray}/\IntsAre vs ns/\ns.length<=n:=by
 have g:WShape.hasAll [] args [.list .int]=true:=(pre_splitW hpre).1;have j:l.pre.holds [] {args:=args}=true:=(pre_splitW hpre).2;obtain⟨d,r,rfl,h1,h2⟩:=hasAllW_cons g;obtain rfl:=hasAllW_nil h2;obtain⟨xs,rfl,m⟩:=hasW_list h1;obtain⟨ns,rfl⟩:=items_int m;have b:ns.length<=n:=by
  unfold OpenLaw.pre at j;have e:(WTm.not (.lt (.lit (.int (n:Int))) (.len (.arg 0)))).holds [] {args:=[.list (ns.map .int)]}=true:=by
   have e:=(holds_andW j).1;rw[hn]at e;exact e
  have c:=condW_of e (w_not (w_lt w_lit (w_len_list (w_arg rfl))));rw[My]at c;refine Nat.le_of_not_lt λq=>?_;have k:(n:Int)<((ns.length:Nat):Int):=by omega
  first
   | (rw[q09 k]at c;exact q0N c nofun)
   | (simp at c;omega)
 cases hwl with
 |cons w1 w2=>
  cases w2;cases w1 with
  |list ho hall=>exact⟨_,_,ns,rfl,rfl,ho,qm ns _ hall,b⟩
theorem Bu(l:OpenLaw)(args:List WData):l.row.toRowW.claim.post args (.bool true) args=true:=
 postW_of (r:=l.row.toRowW) (X:=(true==true))
  (show WShape.has [] (.bool true) .bool=true by first | rfl | decide | simp[WShape.has,WShape.arms,WShape.armsAll])
  (show(WTm.eq .res (.lit (.bool true))).value [] {args:=args,res:=some (.bool true),after:=args}=some (.bool (true==true)) from w_eq_bool (w_res rfl) w_lit) rfl
theorem attach_call{l:OpenLaw}{n:Nat}{loose:ND}{XP:(Str->Option Value)->Heap->Prop}{YP:World->Heap->Prop}{d:DefRec}
  (hn:l.most=some n) (hdf:d.params.defaults=[])
  (call:∀(w:NF) (s₀ s₁:Nv) (mg mb:Nz) (fa:Addr) (o:Obj) (pm cd doc:Value) (a:Addr) (vs:Nw) (ns:List Int),
   Ground q loose [] XP w s₀ mg mb s₁.heap->YP w s₁.heap ->
   s₁.heap.get? fa=some o->o.data=.func (docDef d.name d.params d.body d.scope pm cd doc)->s₁.heap.CodeRec cd d.name->mg d.name=some (.ref fa) ->
   s₁.heap.get? a=some {cls:=.type "list",data:=.seq vs.toArray}->IntsAre vs ns->ns.length<=n->s₁.gens=#[] ->
   codeAny (model l.prog w) callerA (.call (.ref fa) ⟨[.ref a],[]⟩) (λr s'=>r=.ok (.ret (.bool true))/\OldK s₁.heap s'.heap/\s'.os=s₁.os/\AllBare s'.gens) s₁) :
  WalkO q loose XP YP l.row.toRowW d [] (λf vs=>PySem.call f vs):=by
 intro w s₀ s₁ mg mb G Y fa o pm cd doc I kV v B m p k y args vals as c hlay hrd j hlo;obtain rfl:I=.none:=Dflts.none p hdf;obtain rfl:kV=.none:=Dflts.noKw p;obtain⟨a,vs,ns,rfl,rfl,e,b,g⟩:=Ci hn c j;refine enter_call (codeAny_mono (call w s₀ s₁ mg mb fa o pm cd doc a vs ns G Y v (fd_plain B) m k e b g y) λr s' u=>?_);obtain⟨rfl,h2,D,C⟩:=u;exact⟨.inl ⟨.bool true,.bool true,[],rfl,λ_=>rfl,.bool true,Bu l _,λ_=>⟨List.Pairwise.nil,λ_ x=>(nomatch x)⟩⟩,h2,D,C⟩
section
variable {prog:NC}{w:NF}{A:NE}{E:Nq}{s:Nv}{K:Frag}
end
end Att
namespace L2
open PySem PySem.Spec PyProof.Rows
theorem uJ:∀{vs:Nw} {ns:List Int},IntsAre vs ns->bq (ns.map V.int) vs
 |_,_,.nil=>.nil
 |_,_,.cons n t h=>.cons ⟨t,rfl⟩ (uJ h)
def Ig(H:Hp):Prop:=∀b,H b=none\/∃o xs,H b=some (.frz o (.lst xs))
theorem D7{K:Nr}{mg mb:Nz}{CX:kc}{fa a:Addr}{x:Str}{sp:Sp}{s₁:Nv}{vs:Nw}
  (KX:K.In s₁.heap) (hns:s₁.heap.Ns mainGlobals mg) (hb:s₁.heap.Ns builtinsNs mb) (hbb:∀x:Str,x≠"__name__"->mb x=bootBuiltins x) (hlim:s₁.heap.NoLimit) (hg:s₁.gens=#[])
  (ha:s₁.heap.get? a=some {cls:=.type "list",data:=.seq vs.toArray}) (hi:IntsAre vs ns) (hl:ns.length<=sizeLine) (hr:dv k callerA)
  (F:∀base:Heap,K.In base->base.Ns mainGlobals mg->aY P w K mg base CX k fa fd [x] sp) (hbind:∀(s:Nv) (u:Value),BindsTo s fd ⟨[u],[]⟩ [(x,u)])
  (hsp:∀H:Hp,Ig H->aT K H a (ns.map V.int)->sp [.ref a] H (λv _=>v=.bl true) λ_ _ _=>False)
  (hCX:∀H e s',CX [] H s₁ (λ_ _ _=>False) e s'->False) :
  codeAny (model P w) callerA (.call (.ref fa) ⟨[.ref a],[]⟩) (λr s'=>r=.ok (.ret (.bool true))/\OldK s₁.heap s'.heap/\s'.os=s₁.os/\AllBare s'.gens) s₁:=by
 have L:=uJ hi;have p:=hi.length
 -- from an abstract heap in which nothing but the script may be tracked
 have j:∀H:Hp,Ig H->aT K H a (ns.map V.int)->ly P w H s₁.heap->(∀b,H b≠none->b=a)->(H a≠none->K.lookup a=none) ->
   codeAny (model P w) callerA (.call (.ref fa) ⟨[.ref a],[]⟩) (λr s'=>r=.ok (.ret (.bool true))/\OldK s₁.heap s'.heap/\s'.os=s₁.os/\AllBare s'.gens) s₁:=by
  intro H M Z B O hK;have c:∀{b:Addr} {o:Obj},s₁.heap.get? b=some o->H b=none->(wu s₁.heap H).get? b=some o:=λe n=>Dk e n;have G:∀{b:Addr} {o:Obj} {es:Array DictEntry} {ep:Nat},s₁.heap.get? b=some o->o.data=.dict es ep->H b=none:=fun{b o es ep} e d=>by
   cases q:H b with
   |none=>rfl
   |some u=>
    have J:b=a:=O b (by rw[q];simp);subst J;rw[ha]at e;cases e
    have d':Data.seq vs.toArray _=Data.dict es ep:=d;cases d'
  have g:∀{b:Addr} {m:Nz},s₁.heap.Ns b m->(wu s₁.heap H).Ns b m:=fun{b m} ⟨o,es,ep,e,d,r⟩=>⟨o,es,ep,c e (G e d),d,r⟩;have C:K.In (wu s₁.heap H):=λb o e=>c (KX b o e) (by
   cases q:H b with
   |none=>rfl
   |some u=>
    have J:b=a:=O b (by rw[q];simp);subst J;rw[hK (by rw[q];simp)]at e;cases e)
  have hM:Mod K mg (wu s₁.heap H):=⟨C,g hns,⟨mb,g hb,hbb⟩,let ⟨mc,h1,h2⟩:=hlim;⟨mc,g h1,h2⟩⟩;have e0:yl P w K mg (wu s₁.heap H) callerA [] s₁ H:=⟨rfl,hM,λb o e=>Gx e,Nat.le_of_eq (CO _ _),trivial,λb hb=>q0N (show b∈([]:List Addr) from hb) (by simp),B,.of_eq hg⟩;refine codeAny_mono ((F _ C (g hns)).run callerA [] s₁ H ⟨[.ref a],[]⟩ [.ref a] [.ref a] _ _ hr e0 (hbind s₁ (.ref a)) (.cons rfl .nil) (hsp H M Z)) λr s' h=>?_;cases r with
  |error e=>exact(hCX H e s' h).elim
  |ok fl=>
   cases fl with
   |next=>exact False.elim h
   |brk=>exact False.elim h
   |cont=>exact False.elim h
   |ret u=>
    obtain⟨v,H',os,D,un,y,T,q⟩:=h;have U:v=.bl true:=q;subst U;obtain rfl:u=Value.bool true:=T;refine⟨rfl,OldK.of_keep λb o e=>?_,os,D⟩;cases q:H b with
    |none=>exact un.keep b o e q (by intro z;exact q0N (show b∈([]:List Addr) from z) (by simp)) (by simp)
    |some u=>
     rcases M b with z | ⟨Y,xs,z⟩
     ·rw[q]at z;cases z
     ·have S:=un.frzs b Y _ z
      obtain⟨R,_⟩:=B b _ z;obtain⟨e2,_⟩:=y b _ S;rw[e]at R;cases R
      exact e2
 cases I:K.lookup a with
 |some o=>
  -- the script is one of the module's own objects
  have e:=KX a o I;rw[ha]at e;cases e;refine j (λ_=>none) (λ_=>.inl rfl) (.inr ⟨_,vs.toArray,_,I,rfl,rfl,rfl,by rw[ME,p];exact hl,by simpa using L⟩) (λb u z=>by have l:(none:Option HO)=some u:=z;cases l) (λb z=>q0N rfl z) λz=>q0N rfl z
 |none=>
  refine j (λb=>if b=a then some (.frz {cls:=.type "list",data:=.seq vs.toArray} (.lst (ns.map V.int))) else none) (λb=>?_) (.inl (.inr ⟨{cls:=.type "list",data:=.seq vs.toArray},q07 rfl⟩)) (λb u z=>?_) (λb z=>?_) λ_=>I
  ·by_cases hb:b=a
   ·exact .inr ⟨_,_,q07 hb⟩
   ·exact .inl (q06 hb)
  ·by_cases hb:b=a
   ·have l:=(q07 hb).symm.trans z
    cases l;subst hb;exact⟨ha,by rw[My];exact hl,vs,_,L,ha⟩
   ·have l:=(q06 hb).symm.trans z
    cases l
  ·by_cases hb:b=a
   ·exact hb
   ·exact q0N (q06 hb) z
theorem walk_of{l:PySem.W.OpenLaw}{n:Nat}{loose:ND}{XP:(Str->Option Value)->Heap->Prop}{YP:World->Heap->Prop}{d:DefRec}{K:Params->PySem.W.Frag}{CX:World->kc}{sp:World->Sp}{x:Str}
  (hn:l.most=some n) (hn2:n<=sizeLine) (hdf:d.params.defaults=[]) (hr:dv k callerA)
  (hY:∀(w:NF) (h:Heap),YP w h->(K w.params).In h)
  (F:∀(w:NF) (mg:Nz) (fa:Addr) (h:Heap),(K w.params).In h->h.Ns mainGlobals mg->mg d.name=some (.ref fa) ->
   ∃fd:FuncData,(∀(s:Nv) (u:Value),BindsTo s fd ⟨[u],[]⟩ [(x,u)]) /\
    ∀base:Heap,(K w.params).In base->base.Ns mainGlobals mg->aY l.prog w (K w.params) mg base (CX w) k fa fd [x] (sp w))
  (hsp:∀(w:NF) (H:Hp) (a:Addr) (ns:List Int),ns.length<=n->Ig H->aT (K w.params) H a (ns.map V.int)->sp w [.ref a] H (λv _=>v=.bl true) λ_ _ _=>False)
  (hCX:∀(w:NF) (H:Hp) (s:Nv) (e:Value) (s':Nv),CX w [] H s (λ_ _ _=>False) e s'->False) :
  PySem.W.WalkO q loose XP YP l.row.toRowW d [] (λf vs=>PySem.call f vs):=by
 refine Att.attach_call hn hdf λw s₀ y mg mb fa o pm cd doc a vs ns G Y ho hd hcd p m j c B=>?_;have r:=hY w _ Y;obtain⟨fd,C,J⟩:=F w mg fa _ r G.T.g p;exact D7 r G.T.g G.T.b G.T.builtins G.T.nolimit B m j (M5 c hn2) hr J C (λH I D=>hsp w H a ns c I D) λH e s'=>hCX w H y e s'
def bd(s:Stmt):Arguments:=match s with
 | .FunctionDef _ a _ _ _ _ _ _ _ _=>a
 |_=>{posonlyargs:=[],args:=[],vararg:=none,kwonlyargs:=[],kw_defaults:=[],kwarg:=none,defaults:=[]}
def ba(s:Stmt):List Stmt:=match s with
 | .FunctionDef _ _ b _ _ _ _ _ _ _=>b
 |_=>[]
def am(s:Stmt):Scope:=match s with
 | .FunctionDef _ _ _ _ _ _ sc _ _ _=>sc
 |_=>{kind:=.function,names:=[],isGenerator:=false,isCoroutine:=false}
abbrev bw:kc:=λ_ _ _ _ _ _=>False
abbrev E0:XK:=λ_ _ _=>False
theorem aR:dB bw X E0:=λ_ _ _ _ _ _ _ h=>h.elim
structure cE(K:Nr)(x qual:Str)(st:Stmt)(f:Addr)(fd:NA):Prop where
 ex:∃(oc:Value) (od:NG) (kV doc pm:Value) (an:NG) (cdv ct:Value) (osl:Array (Option Value)),
  fd=PySem.W.fnOf x qual (bd st) (ba st) (am st) .none kV doc pm an cdv ct/\K.lookup f=some ⟨oc,od,.func fd,osl⟩/\PySem.W.codeIn K cdv qual=true
 kp:PySem.W.keepIn K (.ref f)=true
section
variable {P:NC}{w:NF}{K:Nr}{mg:Nz}{base:Heap}
theorem cE.ok{qual:Str}{st:Stmt}{f:Addr}{ps:ND}{sp:Sp}(F:cE K x qual st f fd)(S:az N ps (am st))(len:∀vs H Q E,sp vs H Q E->vs.length=ps.length)
  (hbody:∀(cdv:Value) (A:NE) (outer:List Env) (s:Nv) (H:Hp) (vs:List V) (Q:VK) (E:XK),dv k (A.deeper (envOfC qual (am st) s.heap.objs.size f cdv))->sp vs H Q E ->
   ∃t,yf (gS bw P w K mg base N qual (am st) f cdv A outer s H E).nox (ba st) t/\t {nx:=λ_ H'=>Q .non H',rt:=Q} (start N vs) H):↑aY (k+1) f fd ps sp:=by
 obtain⟨oc,od,kV,doc,pm,an,cdv,ct,osl,rfl,c,b⟩:=F.ex;refine GN c b S len λA outer s H vs Q E hr a=>?_;obtain⟨t,h,q⟩:=hbody cdv A outer s H vs Q E hr a;exact⟨t,h.nox,q⟩
theorem cE.binds{qual:Str}{st:Stmt}{f:Addr}{ps:ND}(F:cE K x qual st f fd)
  (h:∀(kV doc pm:Value) (an:NG) (cdv ct:Value) (us:Nw),us.length=ps.length->bindArgs (PySem.W.fnOf x qual (bd st) (ba st) (am st) .none kV doc pm an cdv ct) ⟨us,[]⟩=pure (ps.zip us)):bU K fd ps []:=by
 obtain⟨oc,od,kV,doc,pm,an,cdv,ct,osl,rfl,lk,hcd⟩:=F.ex;exact .all (h kV doc pm an cdv ct)
theorem bM{qual:Str}{st:Stmt}{f:Addr}{oc:Value}{od an:NG}{osl:Array (Option Value)}{kV doc pm cdv ct:Value}(l:K.lookup f=some ⟨oc,od,.func (PySem.W.fnOf x qual (bd st) (ba st) (am st) .none kV doc pm an cdv ct),osl⟩)
  (c:PySem.W.codeIn K cdv qual=true) (k:PySem.W.keepIn K (.ref f)=true):cE K x qual st f (PySem.W.fnOf x qual (bd st) (ba st) (am st) .none kV doc pm an cdv ct):=⟨⟨oc,od,kV,doc,pm,an,cdv,ct,osl,rfl,l,c⟩,k⟩
end
section
variable {X:Cx}
theorem pv(i:Nat){x:Str}{pos:Pos}(hN:autoParam (X.N[i]?=some x) zz0._auto_1)(hv:autoParam (Jf X.env.scope x) zz6._auto_1)(hd:autoParam ((x==("__debug__":Str))=false) zz1._auto_1)
  (hcd:autoParam ((x==("__classdict__":Str))=false) zz1._auto_1):PE X (.Name x pos) (Bb i):=HJ hN hv hd hcd
theorem um:iy X (.builtin "len") (λxs H Q=>∃a kvs,xs=[V.ref a]/\H a=some (.dK kvs)/\Q (.int kvs.length) H):=by
 intro pins s σ H xs us Q I r h;obtain⟨a,kvs,rfl,c,q⟩:=h;obtain⟨u,rfl,b⟩:=wY r;cases b;exact IQ I (.inl c) λt s' e=>⟨.int kvs.length,H,e,⟨t,rfl⟩,q⟩
end
def aE(H H':Hp):Prop:=∀b o,H b=some o->H' b=some o
theorem aE.refl(H:Hp):aE H H:=λ_ _ h=>h
theorem aE.trans(a:aE H H1)(b:aE H1 H2):aE H H2:=λc o h=>b c o (a c o h)
theorem aE.free(e:aE H H'){l:Addr}(h:H' l=Option.none):H l=Option.none:=by
 cases q:H l with
 |none=>rfl
 |some o=>
  rw[e l o q]at h;cases h
theorem aE.seq{K:Nr}(e:aE H H')(h:aT K H a xs):aT K H' a xs:=by
 rcases h with(h | ⟨o,h⟩) | h
 ·exact .inl (.inl (e _ _ h))
 ·exact .inl (.inr ⟨o,e _ _ h⟩)
 ·exact .inr h
section
variable {κ:Type}[DecidableEq κ]
theorem x6{kvs:List (κ×V)}{k:κ}(h:cz kvs k=none):¬ k∈kvs.map (·.1):=by
 intro m;obtain⟨p,b,e⟩:=Nf.mp m;have q:(kvs.any λa=>decide (a.1=k))=true:=List.any_eq_true.mpr ⟨p,b,q09 e⟩;rw[fT,h]at q;exact q0N q (by simp)
theorem GD{kvs:List (κ×V)}{k:κ}{v:V}(h:cz kvs k=some v):k∈kvs.map (·.1):=by
 have q:(kvs.any λa=>decide (a.1=k))=true:=by
  rw[fT,h]
  all_goals rfl
 obtain⟨p,b,e⟩:=List.any_eq_true.mp q;exact Nf.mpr ⟨p,b,of_decide_eq_true e⟩
theorem AE:∀{l:List κ} {k:κ},l.Nodup->¬ k∈l->(l++[k]).Nodup
 | [],k,_,_=>by simp
 |a::r,k,h,hk=>by
  obtain⟨h1,h2⟩:=List.nodup_cons.mp h;show(a::(r++[k])).Nodup;refine List.nodup_cons.mpr ⟨λm=>?_,AE h2 λm=>hk (MM.mpr (Or.inr m))⟩;rcases MK.mp m with q | q
  ·exact h1 q
  ·exact hk (MM.mpr (Or.inl (Mz.mp q).symm))
theorem Fz{kvs:List (κ×V)}{k:κ}(v:V)(hn:(kvs.map (·.1)).Nodup)(h:cz kvs k=none):((cN kvs k v).map (·.1)).Nodup:=by
 rw[rp v h,MJ];exact AE hn (x6 h)
end
end L2
namespace PySem
open Sem (wp)
open Builtin Builtin.Str Builtin.Int
namespace F
theorem pz:Manifest.owners.lookup "reversed"=some Manifest.sig_reversed:=by kernel_rfl
theorem slot_rvs_next:Slot "reversed" "__next__" "reversed.__next__":=
 .of (owner:="reversed") (n:="__next__") (by rw[typeLookup_type,builtinLookup_eq_fast];kernel_rfl) (by decide +kernel) (by decide +kernel) (by decide +kernel)
  (by first | exact .inl (by decide +kernel) | exact .inr (by decide +kernel)) (by rw[isSubtype_type];kernel_rfl)
theorem entry_rvs_next:entryFor table "reversed.__next__"=some Builtin.«reversed.__next__»:=entryFor_of_tree (by kernel_rfl)
theorem slot_rvs_iter:Slot "reversed" "__iter__" "reversed.__iter__":=
 .of (owner:="reversed") (n:="__iter__") (by rw[typeLookup_type,builtinLookup_eq_fast];kernel_rfl) (by decide +kernel) (by decide +kernel) (by decide +kernel)
  (by first | exact .inl (by decide +kernel) | exact .inr (by decide +kernel)) (by rw[isSubtype_type];kernel_rfl)
theorem nolen_rvs:typeLookup (.type "reversed") "__len__"=pure none:=by rw[typeLookup_type,builtinLookup_eq_fast];kernel_rfl
theorem hint_rvs:typeLookup (.type "reversed") "__length_hint__"=pure (some (.builtin "reversed.__length_hint__")):=by rw[typeLookup_type,builtinLookup_eq_fast];kernel_rfl
theorem args_rvs_next_1(a:Value):argsOk "reversed.__next__" ⟨[a],[]⟩:=by
 unfold argsOk;rw[signature?_of (id:="reversed.__next__") (n:=['_','_','t','x','e','n','_','_']) (o:=['d','e','s','r','e','v','e','r']) (by kernel_rfl) pz];kernel_rfl
theorem args_rvs_iter_1(a:Value):argsOk "reversed.__iter__" ⟨[a],[]⟩:=by
 unfold argsOk;rw[signature?_of (id:="reversed.__iter__") (n:=['_','_','r','e','t','i','_','_']) (o:=['d','e','s','r','e','v','e','r']) (by kernel_rfl) pz];kernel_rfl
theorem entry_rvs_iter:entryFor table "reversed.__iter__"=some Builtin.«dict_keyiterator.__iter__»:=
 entryFor_alias (id':="dict_keyiterator.__iter__") (by kernel_rfl) (by first | rfl | decide +kernel | (unfold String.splitOn;simp +decide [String.splitOnAux])) (by decide +kernel) (by kernel_rfl)
theorem slot_rvs_hint:Slot "reversed" "__length_hint__" "reversed.__length_hint__":=
 .of (owner:="reversed") (n:="__length_hint__") (by rw[typeLookup_type,builtinLookup_eq_fast];kernel_rfl) (by decide +kernel) (by decide +kernel) (by decide +kernel)
  (by first | exact .inl (by decide +kernel) | exact .inr (by decide +kernel)) (by rw[isSubtype_type];kernel_rfl)
theorem entry_rvs_hint:entryFor table "reversed.__length_hint__"=some Builtin.«reversed.__length_hint__»:=entryFor_of_tree (by kernel_rfl)
theorem args_rvs_hint_1(a:Value):argsOk "reversed.__length_hint__" ⟨[a],[]⟩:=by
 unfold argsOk;rw[signature?_of (id:="reversed.__length_hint__") (n:=['_','_','t','n','i','h','_','h','t','g','n','e','l','_','_']) (o:=['d','e','s','r','e','v','e','r']) (by kernel_rfl) pz];kernel_rfl
end F
section
variable {prog:NC}{w:NF}{A:NE}{E:Nq}{s:Nv}
def y8(x:Str)(t:Tok)(i:Int):Obj:={cls:=.type "reversed",data:=.fields #[.str x t,rawInt i]}
def Heap.IsRvs(h:Heap)(a:Addr)(x:Str)(t:Tok)(i:Int):Prop:=∃o,h.get? a=some o/\o.cls=.type "reversed"/\o.data=.fields #[.str x t,rawInt i]
theorem Heap.IsRvs.typeIs{t:Tok}{i:Int}(y:s.heap.IsRvs a x t i):s.TypeIs (.ref a) "reversed":=let ⟨o,ho,hc,_⟩:=y;⟨o,ho,hc⟩
theorem Heap.IsRvs.at{h h':Heap}{t:Tok}{i:Int}(y:h.IsRvs a x t i)(e:∀o,h.get? a=some o->h'.get? a=some o):h'.IsRvs a x t i:=let ⟨o,ho,r⟩:=y;⟨o,e _ ho,r⟩
theorem jX{it:Addr}{t:Tok}{i c:Nat}{Q:Option Value->Shared->Prop}(hit:s.heap.IsRvs it x t (i:Int))(hx:x.cps[i]?=some c)(hsz:i<2 ^ 63)
  (hQ:∀h' tk tk',h'.IsRvs it x t ((i:Int)-1)->Heap.SameBut it s.heap h'->Q (some (.str ⟨#[c]⟩ tk)) {s with heap:=h',toks:=tk' }):wpAny (model prog w) A (pyNext (.ref it)) Q E s:=by
 obtain⟨o,g,l,b⟩:=id hit;have j:i<x.length:=(Array.getElem?_eq_some_iff.mp hx).1;unfold pyNext;refine q04 (wpAny_attempt (wpAny_callSpecial?_slot (name:=Str.ofString "__next__") hit.typeIs F.slot_rvs_next
  (wpAny_call_entry F.slot_rvs_next hit.typeIs F.entry_rvs_next ?_ (F.args_rvs_next_1 _))))
 unfold Builtin.«reversed.__next__»;refine q04 (wpAny_of_eq (a:=(Value.ref it,[])) rfl ?_)
 try dsimp only
 refine q04 (wpAny_field g b (x:=.str x t) rfl ?_);refine q04 (wpAny_field g b (x:=rawInt (i:Int)) rfl ?_);show wpAny _ _ (if(i:Int)<0 then _ else _) _ _ s;rw[q06 ⋯];refine q04 (wpAny_specialOf (typeIs_str s x t) F.slot_str_getitem.lookup ?_)
 try dsimp only
 first
 |rw[q06 (show ¬ ((some (Value.builtin "str.__getitem__")).isNone=true) from MW)]
 |skip
 refine q04 (wpAny_mkInt ?_);refine q04 (wpAny_attempt ?_);have m:(seqIndex? (i:Int) x.length).bind (x.cps[·]?)=some c:=by
  have e:seqIndex? (i:Int) x.length=some i:=by
   have k:¬ ((i:Int)<0):=by omega
   unfold seqIndex?;simp[k,j]
  rw[e];exact hx
 refine P.getItem_str (c:=c) (by simp;omega) m ?_;dsimp only;refine q04 (wpAny_field g b (x:=rawInt (i:Int)) rfl ?_);show wpAny _ _ (setField (Value.ref it) 1 (rawInt ((i:Int)-1)) >>= λ_=>ret (Value.str ⟨#[c]⟩ _)) _ _ _;refine q04 (wpAny_setField g b (by simp) ?_);refine q05 ⟨_,rfl,q05 (hQ _ _ _ ?_ (Heap.SameBut.update ..))⟩;exact⟨_,MH _ g (Obj.isFreed_of_fields (Obj.data_mapFields b _)),(Obj.cls_mapFields ..).trans l,by
  rw[Obj.data_mapFields b];simp⟩
theorem kW{it:Addr}{t:Tok}{Q:Option Value->Shared->Prop}(hh:A.handled=none)(hit:s.heap.IsRvs it x t (-1))
  (hQ:∀h',Heap.ExtBut it s.heap h'->Q none {s with heap:=h' }):wpAny (model prog w) A (pyNext (.ref it)) Q E s:=by
 obtain⟨o,e,hc,c⟩:=id hit;unfold pyNext;refine q04 (wpAny_attempt (wpAny_callSpecial?_slot (name:=Str.ofString "__next__") hit.typeIs F.slot_rvs_next
  (wpAny_call_entry F.slot_rvs_next hit.typeIs F.entry_rvs_next ?_ (F.args_rvs_next_1 _))))
 unfold Builtin.«reversed.__next__»;refine q04 (wpAny_of_eq (a:=(Value.ref it,[])) rfl ?_)
 try dsimp only
 refine q04 (wpAny_field e c (x:=.str x t) rfl ?_);refine q04 (wpAny_field e c (x:=rawInt (-1)) rfl ?_);show wpAny _ _ (if(-1:Int)<0 then _ else _) _ _ s;rw[q07 nofun];refine q04 (wpAny_rule ?_);show wpAny _ _ ((setField (Value.ref it) 1 (rawInt (-1)) >>= λ_=>setField (Value.ref it) 0 .none) >>= _) _ _ _;refine q04 (q04 (wpAny_setField e c (by simp) ?_));have g:=MH (Obj.mapFields (·.setIfInBounds 1 (rawInt (-1)))) e (Obj.isFreed_of_fields (Obj.data_mapFields c _));refine wpAny_setField g (Obj.data_mapFields c _) (by simp) ?_;dsimp only;show wpAny _ _ (SmallTypes.stopIteration >>= _) _ _ _;refine q04 ?_;unfold SmallTypes.stopIteration
 first
 |show wpAny _ _ (newExc (.type "StopIteration") [] >>= _) _ _ _
 | (refine q04 ?_;show wpAny _ _ (newExc (.type "StopIteration") [] >>= _) _ _ _)
 refine q04 ?_;simp only[newExc,newTuple];refine q04 (wpAny_newObj_type ?_ (by size_fits));refine q04 (m:=firstArgMember _ _) (wpAny_of_eq (a:=Value.none) (by first | rfl | (simp only[firstArgMember];rfl)) ?_);refine wpAny_newObj_type ?_ (by size_fits);simp only[raiseNew];refine q04 (wpAny_handled ?_)
 first | rw[show A.in1.handled=none from hh] | rw[hh]
 refine q04 (q05 (wpAny_throw ?_));refine q04 (wpAny_isInstance (T:="StopIteration") (b:=true) ⟨_,MD _ rfl,rfl⟩ isSubtype_stop ?_);refine q05 (hQ _ ?_);intro b ob j k;exact Mx _ (Mx _ ((MC _ _ (Ne.symm j)).trans ((MC _ _ (Ne.symm j)).trans k)))
theorem iO{it:Addr}{t:Tok}{i:Int}{Q:Nq}(hit:s.heap.IsRvs it x t i)(h:Q (.ref it) s):wpAny (model prog w) A (pyIter (.ref it)) Q E s:=by
 refine wpAny_pyIter_slot hit.typeIs F.slot_rvs_iter (wpAny_call_entry F.slot_rvs_iter hit.typeIs F.entry_rvs_iter ?_ (F.args_rvs_iter_1 _));show wpAny _ _ (ret (.ref it)) _ _ s;exact q05 ⟨_,rfl,"reversed",_,hit.typeIs,F.slot_rvs_next.lookup,h⟩
theorem hint_rvs{it:Addr}{t:Tok}{i:Int}{Q:Nq}(hit:s.heap.IsRvs it x t i)(hi:i<x.length)(hz:x.length<=sizeLine)
  (h:∀u tk,s.toks<=tk->Q (.int (i+1) u) {s with toks:=tk}):wpAny (model prog w) A (call (.builtin "reversed.__length_hint__") [.ref it]) Q E s:=by
 obtain⟨o,b,hc,c⟩:=id hit;refine wpAny_call_entry F.slot_rvs_hint hit.typeIs F.entry_rvs_hint ?_ (F.args_rvs_hint_1 _);unfold Builtin.«reversed.__length_hint__»;refine q04 (wpAny_of_eq (a:=Value.ref it) rfl ?_);refine q04 (wpAny_field b c (x:=.str x t) rfl ?_);show wpAny _ _ (if(Value.str x t==Value.none)=true then _ else _) _ _ s;rw[q06 (show ¬ ((Value.str x t==Value.none)=true) from λz=>by cases(eq_of_beq z))];have hs:sizeLine=16777216:=q0R;refine q04 (P.len_str ⋯ ?_);refine q04 (m:=asInt? _) (q05 ?_);dsimp only;refine q04 (wpAny_field b c (x:=rawInt i) rfl ?_);show wpAny _ _ (if(x.length:Int)<i+1 then _ else _) _ _ _;rw[q06 ⋯];show wpAny _ _ (mkInt (i+1) >>= λv=>ret v) _ _ _;exact q04 (wpAny_mkInt (q05 ⟨_,rfl,h _ _ (by simp;omega)⟩))
theorem Walks.rvs{A:NE}(hh:A.handled=none)(I:Addr)(x:Str)(t:Tok)(hz:x.length<=sizeLine) :
  Walks prog w A I [I] [I] x.length (λi v=>∃c tk,x.cps[x.length-1-i]?=some c/\v=.str ⟨#[c]⟩ tk) (λi h=>i<=x.length/\h.IsRvs I x t ((x.length:Int)-1-(i:Int))) where
 sub:=λb hb=>hb
 frame:=λ_ _ _ y hk=>⟨y.1,y.2.at λo e=>hk I (by simp) o e⟩
 item:=λi s Q E hi y hQ=>by
  have e:(x.length:Int)-1-(i:Int)=((x.length-1-i:Nat):Int):=by omega
  have a:=y.2;rw[e]at a;have hb:x.length-1-i<x.cps.size:=by have:x.length=x.cps.size:=rfl;omega
  have p:x.cps[x.length-1-i]?=some (x.cps[x.length-1-i]'hb):=Array.getElem?_eq_getElem hb;have hs:sizeLine=16777216:=q0R;refine jX a p ⋯ λm tk j g k=>?_;have q:((x.length-1-i:Nat):Int)-1=(x.length:Int)-1-((i+1:Nat):Int):=by omega
  rw[q]at g;exact hQ _ m j ⟨_,tk,p,rfl⟩ ⟨hi,g⟩ λb o hb n=>k.extBut b o (λh=>hb (by simp[h])) n
 done:=λs Q E y hQ=>by
  have e:(x.length:Int)-1-(x.length:Int) = -1:=by omega
  have a:=y.2;rw[e]at a;exact kW hh a λm l=>hQ m s.toks λb o hb n=>l b o (λh=>hb (by simp[h])) n
 self:=λ_ _ _ _ y hQ=>iO y.2 hQ
theorem oh{t:Tok}{Q:List Value->Shared->Prop}(hh:A.handled=none)(hit:s.heap.IsRvs I x t ((x.length:Int)-1))(hz:x.length<=sizeLine)
  (hQ:∀s' acc,Moved [I] (λa b=>b=a) s s'->ItemsOf (λi v=>∃c tk,x.cps[x.length-1-i]?=some c/\v=.str ⟨#[c]⟩ tk) acc x.length->Q acc.toList s'):wpAny (model prog w) A (collect (.ref I)) Q E s:=by
 have W:=(Walks.rvs (prog:=prog) (w:=w) (A:=A.in1) hh I x t hz).toS;have hn:x.length<=sizeLine:=hz;have hst:(λi (s:Nv)=>i<=x.length/\s.heap.IsRvs I x t ((x.length:Int)-1-(i:Int))) 0 s:=⟨MV _,by simpa using hit⟩;have hT:∀i (s:Nv),(i<=x.length/\s.heap.IsRvs I x t ((x.length:Int)-1-(i:Int)))->s.TypeIs (.ref I) "reversed":=λi s y=>y.2.typeIs;have hlt:I<s.heap.objs.size:=by obtain⟨o,ho,_⟩:=hit;exact MX ho
 have hSI:s.heap.objs.size≠I:=λe=>M6 _ (e▸hlt);have hSf:s.heap.objs.size∉[I]:=λhm=>hSI (Mz.mp hm);unfold collect;refine q04 (wpAny_runValue (codeAny_builtin F.entry_proto_collect ?_));rw[Around.under_plainId F.plain_proto_collect _];show wpAny _ A.in1 (newList [] >>= λl=>again (.builtin "list.__iadd__" ⟨[l,.ref I],[]⟩)) _ _ s;refine q04 (wpAny_newObj_type ?_);refine q05 ⟨plainId_quiet F.plain_list_iadd _,codeAny_builtin F.entry_list_iadd ?_⟩;rw[Around.under_plainId F.plain_list_iadd _];have hst₁:=W.frame 0 s (s.heap.push {cls:=.type "list",data:=.seq ([]:List Value).toArray}) s.toks hst (MU _) λb _ o e=>Mx _ e;have hS₁:(s.heap.push {cls:=.type "list",data:=.seq ([]:List Value).toArray}).get? s.heap.objs.size=some {cls:=.type "list",data:=.seq ([]:List Value).toArray}:=MD _ rfl;have h1:Builtin.List.listSameRef (.ref s.heap.objs.size) (.ref I)=false:=by simp[Builtin.List.listSameRef,hSI]
 show wpAny _ A.in1 (Builtin.List.listExtendWith (.ref s.heap.objs.size) (.ref I) (.ref s.heap.objs.size)) _ _ _;unfold Builtin.List.listExtendWith;refine q04 (wpAny_typeOf (hT 0 _ hst₁) ?_);rw[q06 (by rw[h1];decide)];refine q04 (W.self 0 _ _ _ hst₁ ?_);refine q04 (q0T ?_);unfold Builtin.List.listLengthHint;refine q04 (wpAny_specialOf (hT 0 _ hst₁) F.nolen_rvs ?_);show wpAny _ A.in1 (specialOf (Value.ref I) (Str.ofString "__length_hint__") >>= _) _ _ _;refine q04 (wpAny_specialOf (hT 0 _ hst₁) F.hint_rvs ?_)
 (generalize hid:("reversed.__length_hint__":String)=id0;(fail_if_success (clear hid id0));wp_delta;rw[show splitId id0=some ("reversed","__length_hint__") from by subst hid;decide +kernel];subst hid)
 refine q04 (wpAny_isInstance (b:=true) (hT 0 _ hst₁) (by rw[isSubtype_type];kernel_rfl) ?_);rw[q06 (show ¬ ((!true)=true) by decide)];dsimp only
 split
 ·rename_i hsil
  exact q0N hsil (by decide +kernel)
 refine q04 (wpAny_rule ?_);refine q04 (wpAny_of_eq (F.slot_rvs_hint.bind _) ?_);dsimp only;refine q04 (wpAny_attempt ?_);refine hint_rvs (i:=(x.length:Int)-1-((0:Nat):Int)) hst₁.2 ⋯ hz λu tk htk=>?_;dsimp only;have hs:sizeLine=16777216:=q0R;have hk:Builtin.List.listTooLong (Int.toNat ((x.length:Int)-1-((0:Nat):Int)+1))=false:=by
  unfold Builtin.List.listTooLong;have e:Int.toNat ((x.length:Int)-1-((0:Nat):Int)+1)=x.length:=by omega
  rw[e]
  simpa using hz
 refine q04 (m:=asInt? (.int _ u)) (q05 ?_);dsimp only;have hfit:Builtin.List.listFitsIndex ((x.length:Int)-1-((0:Nat):Int)+1)=true:=by
  unfold Builtin.List.listFitsIndex;simp;omega
 rw[q06 (by rw[hfit];decide),q06 ⋯,q06 (by rw[hk];decide)];refine q05 ?_
 -- the loop,from a list that may have been touched
 have fin:∀(h₂:Heap) (c:Nat),(∀b o,b≠s.heap.objs.size->(s.heap.push {cls:=.type "list",data:=.seq ([]:List Value).toArray}).get? b=some o->h₂.get? b=some o) ->
   h₂.get? s.heap.objs.size=some {cls:=.type "list",data:=.seq ([]:List Value).toArray c} ->
   codeAny (model prog w) A (.builtin "list.extend.loop" ⟨[.ref s.heap.objs.size,.ref I,.ref s.heap.objs.size],[]⟩) (λr s'=>match r with
    | .ok (.ret v)=>wpAny (model prog w) A (match v with
     | .ref a=>do
      let __do_lift <- load a
      match __do_lift.data with
       | .seq xs _=>pure xs.toList
       |_=>unsupported "internal:collect"
     |_=>unsupported "internal:collect") Q E s'
    | .ok _=>False
    | .error e=>E e s') {s with heap:=h₂,toks:=tk}:=λh₂ c keep hS₂=>by
  have hst₂:(λi (s:Nv)=>i<=x.length/\s.heap.IsRvs I x t ((x.length:Int)-1-(i:Int))) 0 {s with heap:=h₂,toks:=tk}:=⟨MV _,hst₁.2.at λo e=>keep I o (Ne.symm hSI) e⟩;refine codeAny_extend_loopS W hn _ hSf _ x.length 0 _ _ _ rfl (MV _) hst₂ hS₂ (ItemsOf.nil _) λs' acc' c' hm hS' hacc=>?_;show wpAny _ A (load s.heap.objs.size >>= _) _ _ s';refine q04 (wpAny_load hS' ?_);refine q05 (hQ s' acc' ?_ hacc);exact⟨λb ob hb e=>hm.heap b ob (λhm'=>by
    rcases MM.mp hm' with e1 | hm'
    ·exact q0N (e1▸MX e) (M6 _)
    ·exact hb hm') (keep b ob (λe1=>q0N (e1▸MX e) (M6 _)) (Mx _ e)),hm.gens,hm.drawn,hm.os,M5 htk hm.toks⟩
 have quiet:=plainId_quiet F.plain_extend_loop (⟨[.ref s.heap.objs.size,.ref I,.ref s.heap.objs.size],[]⟩:Args)
 split
 ·refine q04 (wpAny_rule ?_)
  show wpAny _ A.in1 ((updateSeq s.heap.objs.size (·.push .none) >>= λ_=>updateSeq s.heap.objs.size (·.pop)) >>= _) _ _ _;refine q04 (q04 (wpAny_updateSeq hS₁ rfl ?_ (by simp) (by simp)));have q1:=PySem.IsL.update (h:=s.heap.push {cls:=.type "list",data:=.seq ([]:List Value).toArray}) (l:=s.heap.objs.size) (items:=([]:List Value).toArray) (n:=0) hS₁ (·.push .none);refine wpAny_updateSeq q1 rfl ?_ (by simp;omega) (by simp);have q2:=PySem.IsL.update q1 (·.pop);exact q05 ⟨quiet,fin _ _ (λb o hb e=>(MC _ _ (Ne.symm hb)).trans ((MC _ _ (Ne.symm hb)).trans e)) (show _=some ({cls:=.type "list",data:=.seq ([]:List Value).toArray _}:Obj) from q2)⟩
 ·exact q05 ⟨quiet,fin _ _ (λb o hb e=>e) hS₁⟩
theorem Di{sep:Str}{t:Tok}{Q:Nq}(hh:A.handled=none)(hit:s.heap.IsRvs I x t ((x.length:Int)-1))(hz:x.length<=1000)(hsep:sep.length<=1000)
  (h:∀(s':Nv) (t':Tok) (k:Nat),(∀b o,b≠I->s.heap.get? b=some o->s'.heap.get? b=some o)->s'.gens=s.gens->s'.drawn=s.drawn->s'.os=s.os ->
   Q (.str (Txt.join sep (x.cps.toList.reverse.map λc=>(⟨#[c]⟩:Str))) t') {s' with toks:=k}):wpAny (model prog w) A (call (.builtin "str.join") [.str sep t0,.ref I]) Q E s:=by
 have hs:sizeLine=16777216:=q0R;refine wpAny_call (codeAny_call_builtin F.slot_str_join.plain F.entry_str_join (F.slot_str_join.check _ _ _ _ _ _ _ _ (typeIs_str _ _ _) (F.args_str_join_2 _ _) ?_));rw[join_tree_other];refine q04 (wpAny_typeOf hit.typeIs ?_);show wpAny _ A.in1 ((pyIter (.ref I)).tryCatch _ >>= λY=>collect Y >>= λu=>joinTail sep u) _ _ s;refine q04 (wpAny_tryCatch (iO hit ?_));refine q04 (oh hh hit ⋯ λs' C D m=>?_);obtain⟨l,G⟩:=exists_strValues C.toList λv Z=>by
  obtain⟨j,J,rfl⟩:=Array.mem_iff_getElem.mp (Array.mem_toList_iff.mp Z);obtain⟨c,U,_,e⟩:=m.2 j _ (Array.getElem?_eq_getElem J);exact⟨_,_,e⟩
 have B:l.map (·.1)=x.cps.toList.reverse.map λc=>(⟨#[c]⟩:Str):=by
  have el:l.length=x.length:=by
   have q:=q0O List.length G;simp[strValues]at q;rw[q];exact m.1
  refine List.ext_getElem (by simp[el];rfl) λj h1 h2=>?_;simp only[MZ,List.getElem_reverse];have J:j<l.length:=by simpa using h1
  have ha:C.toList[j]?=some (Value.str (l[j]).1 (l[j]).2):=by
   rw[<- G];simp[strValues,J]
  have O:C[j]?=some (Value.str (l[j]).1 (l[j]).2):=by simpa using ha
  obtain⟨c,U,T,e⟩:=m.2 j _ O
  injection e with S _
  rw[S];have M:x.length-1-j<x.cps.size:=by have:x.length=x.cps.size:=rfl;omega
  rw[Array.getElem?_eq_getElem M]at T;have L:=q0P T;rw[<- L];simp only[Array.length_toList,Array.getElem_toList]
  rfl
 rw[<- G];have n:JoinOk sep (l.map (·.1))=true:=by
  unfold JoinOk;rw[StrLaws.joinTotal];have S:((l.map (·.1)).map (·.length)).sum=x.length:=by
   rw[B,ML];have:((λy:Str=>y.length)∘λc=>(⟨#[c]⟩:Str))=λ_=>1:=by funext c;rfl
   rw[this,List.map_const',List.sum_replicate_nat];simp
   rfl
  have e2:(l.map (·.1)).length=x.length:=by rw[B];simp;rfl
  rw[S,e2];have:x.length*sep.length<=1000*1000:=Nat.mul_le_mul hz hsep;unfold tooLong;rw[q08 ⋯]
  rfl
 have a:=λt' k=>h s' t' k (λb o M e=>D.heap b o (λz=>M (Mz.mp z)) e) D.gens D.drawn D.os;unfold JoinOk at n;rw[Bool.not_eq_true']at n;have g:Gives (joinTail sep (strValues l)) (joinMade sep l):=by
  have R:=gives_joinTail sep l n;cases l with
  |nil=>exact R
  |cons p r=>cases r with
   |nil=>exact R
   |cons q r'=>exact R
 rw[<- B]at a;exact g prog w A (wants Q E) s' (post_join l ⟨joinFit_length n,a⟩)
end
namespace F
theorem tR:Slot "reversed" "__init__" "object.__init__":=
 .of (owner:="object") (n:="__init__") (by rw[typeLookup_type,builtinLookup_eq_fast];kernel_rfl) (by decide +kernel) (by decide +kernel) (by decide +kernel)
  (by first | exact .inl (by decide +kernel) | exact .inr (by decide +kernel)) (by rw[isSubtype_type];kernel_rfl)
theorem Au:mroOf (.type "reversed")=pure [.type "reversed",.type "object"]:=by rw[mroOf_type];kernel_rfl
theorem rL:typeLookup (.type "reversed") "__new__"=pure (some (.builtin "reversed.__new__")):=by rw[typeLookup_type,builtinLookup_eq_fast];kernel_rfl
theorem rvs_called:TypeCalled "reversed" "reversed.__new__" "object.__init__":=
 ⟨by decide +kernel,by decide +kernel,⟨_,_,Au⟩,madeBy_type Au rL (by decide +kernel),by decide +kernel,by rw[isSubtype_type];kernel_rfl,tR⟩
theorem rvs_typeCall_1(a:Value):checkTypeCall "reversed" ⟨[a],[]⟩=pure ():=by kernel_rfl
theorem rvs_newCall_1(a:Value):checkBuiltinCall "reversed.__new__" ⟨[.type "reversed",a],[]⟩=pure ():=by kernel_rfl
theorem rvs_entry_new:entryFor table "reversed.__new__"=some Builtin.«reversed.__new__»:=entryFor_of_tree (by kernel_rfl)
theorem rvs_sub:isSubtype (.type "reversed") (.type "reversed")=pure true:=by rw[isSubtype_type];kernel_rfl
theorem rvs_nostr:typeLookup (.type "str") "__reversed__"=pure none:=by rw[typeLookup_type,builtinLookup_eq_fast];kernel_rfl
end F
section
variable {prog:NC}{w:NF}{A:NE}{E:Nq}{s:Nv}
theorem vm(a:Value):Builtin.SmallTypes.newClass "reversed" ⟨[.type "reversed",a],[]⟩=pure (.type "reversed",[a]):=by
 unfold Builtin.SmallTypes.newClass;simp only[isType,F.rvs_sub,pure_bind,Bool.not_true,q0V,if_false]
theorem tf(x:Str)(t:Tok)(hz:x.length<=sizeLine):Meets (Builtin.«reversed.__new__» ⟨[.type "reversed",.str x t],[]⟩)
  (λ_ R s=>R (.ok (.ret (.ref s.heap.objs.size))) {s with heap:=s.heap.push (y8 x t ((x.length:Int)-1)),toks:=s.toks+1+1}):=
 .of_wp λprog w A R s h=>by
  have hs:sizeLine=16777216:=q0R;unfold Builtin.«reversed.__new__»;refine q04 (wpAny_of_eq (vm _) ?_)
  try dsimp only
  refine q04 (wpAny_of_eq (a:=()) (by first | rfl | kernel_rfl) ?_);refine q04 (wpAny_of_eq (a:=()) (by first | rfl | kernel_rfl) ?_)
  try dsimp only
  refine q04 (wpAny_specialOf (typeIs_str s x t) F.rvs_nostr ?_)
  try dsimp only
  refine q04 ?_;refine q04 (wpAny_isInstance (T:="str") (b:=false) (typeIs_str s x t) (by rw[isSubtype_type];kernel_rfl) ?_);rw[q06 nofun];refine q04 (wpAny_specialOf (typeIs_str s x t) F.slot_str_getitem.lookup ?_);dsimp only
  split
  ·refine q05 ?_
   rw[q06 nofun];refine q04 (P.len_str ⋯ ?_);refine q04 (m:=asInt? _) (q05 ?_);dsimp only;show wpAny _ _ (newObj (.type "reversed") (.fields #[.str x t,rawInt ((x.length:Int)-1)]) >>= λv=>ret v) _ _ _;exact q04 (wpAny_newObj_type (q05 ⟨_,rfl,h⟩))
  ·rename_i hn
   exact q0N (by decide +kernel) hn
theorem nQ{x:Str}{t:Tok}{Q:Nq}(hz:x.length<=sizeLine)
  (h:Q (.ref s.heap.objs.size) {s with heap:=s.heap.push (y8 x t ((x.length:Int)-1)),toks:=s.toks+1+1}):wpAny (model prog w) A (call (.type "reversed") [.str x t]) Q E s:=
 callType_new F.rvs_called nofun (F.rvs_typeCall_1 _) (F.rvs_newCall_1 _) (λobj=>F.args_object_init_2 obj _) F.rvs_entry_new (tf x t hz) ⟨⟨_,MD _ rfl,rfl⟩,h⟩
end
end PySem
namespace L2
open PySem PySem.Spec PyProof.Rows
def gl(env:Env):List (Str×NameKind)->List (Str×Addr)->List (Str×Addr)
 | [],acc=>acc
 | (n,k)::r,acc=>if k==.free then gl env r ((n,(env.cells.lookup n).getD 0)::acc) else gl env r acc
theorem pJ{env:Env}:∀(ns:List (Str×NameKind)) (acc:List (Str×Addr)),(∀x∈ns,x.2=.free->∃c,env.cells.lookup x.1=some c) ->
  (forIn ns acc fun(x:Str×NameKind) (cs:List (Str×Addr))=>(if x.2==.free then do
    let c <- cellOf env x.1
    pure (ForInStep.yield ((x.1,c)::cs))
   else pure (ForInStep.yield cs):Sem (ForInStep (List (Str×Addr)))))=pure (gl env ns acc)
 | [],acc,_=>rfl
 | (n,k)::r,acc,h=>by
  have ih:=λa=>pJ (env:=env) r a λx hx=>h x (MN _ hx);rw[List.forIn_cons]
  by_cases hk:k=.free
  ·subst hk
   obtain⟨c,hc⟩:=h (n,.free) q0B rfl;have hc':env.cells.lookup n=some c:=hc;have e1:cellOf env n=pure c:=by unfold cellOf;rw[hc']
   simp only[gl,hc',q0I];show((do let c <- cellOf env n;pure (ForInStep.yield ((n,c)::acc))) >>= _)=_;rw[e1,pure_bind,pure_bind];exact ih _
  ·have b:(k==NameKind.free)=false:=by simpa using hk
   simp only[gl,b,q0V,if_false];rw[pure_bind];exact ih _
theorem kF{env:Env}{scope:Scope}(h:∀x∈scope.names,x.2=.free->∃c,env.cells.lookup x.1=some c) :
  closureFor scope env=pure (gl env scope.names []):=by
 unfold closureFor;have e:=pJ (env:=env) scope.names [] h;have a:(forIn scope.names ([]:List (Str×Addr)) λx b=>(match x with
   | (name,kind)=>if kind==.free then do
     let c <- cellOf env name
     pure (ForInStep.yield ((name,c)::b))
    else pure (ForInStep.yield b):Sem (ForInStep (List (Str×Addr)))))=pure (gl env scope.names []):=e
 simp only[]at a ⊢
 first
  | (rw[a];rfl)
  | (erw [a];rfl)
theorem jm{env:Env}:∀{ns:List (Str×NameKind)} {acc:List (Str×Addr)} {x:Str} {c:Addr},(∀y∈ns,y.2=.free->∃c,env.cells.lookup y.1=some c) ->
  (∀y c,acc.lookup y=some c->env.cells.lookup y=some c)->(gl env ns acc).lookup x=some c->env.cells.lookup x=some c
 | [],_,_,_,_,ha,e=>ha _ _ e
 | (n,k)::r,acc,x,c,h,ha,e=>by
  have hr:∀y∈r,y.2=.free->∃c,env.cells.lookup y.1=some c:=λy hy=>h y (MN _ hy);unfold gl at e
  by_cases hk:k=.free
  ·subst hk
   rw[q07 (by simp)]at e;obtain⟨c',hc⟩:=h (n,.free) q0B rfl;have hc':env.cells.lookup n=some c':=hc;refine jm hr (λy d z=>?_) e;rw[hc',q0I,List.lookup_cons]at z
   by_cases q:y=n
   ·subst q
    simp at z;subst z;exact hc'
   ·have q':(y==n)=false:=by simpa using q
    rw[q']at z;exact ha y d z
  ·rw[q06 (by simpa using hk)]at e
   exact jm hr ha e
theorem qx{env:Env}:∀{ns:List (Str×NameKind)} {acc:List (Str×Addr)} {x:Str},((∃c,acc.lookup x=some c)\/(x,NameKind.free)∈ns)->∃c,(gl env ns acc).lookup x=some c
 | [],_,_,h=>by
  rcases h with h | h
  ·exact h
  ·exact nomatch h
 | (n,k)::r,acc,x,h=>by
  unfold gl
  by_cases hk:k=.free
  ·subst hk
   rw[q07 (by simp)];refine qx ?_
   by_cases q:x=n
   ·subst q
    left
    simp[List.lookup_cons]
   ·have q':(x==n)=false:=by simpa using q
    rcases h with⟨c,h⟩ | h
    ·exact .inl ⟨c,by rw[List.lookup_cons,q'];exact h⟩
    ·rcases MM.mp h with z | z
     ·cases z
      exact q0N rfl q
     ·exact .inr z
  ·rw[q06 (by simpa using hk)]
   refine qx ?_;rcases h with h | h
   ·exact .inl h
   ·rcases MM.mp h with z | z
    ·cases z
     exact q0N rfl hk
    ·exact .inr z
def x5(scope osc:Scope):Scope:=
 {scope with names:=scope.names.map fun(n,k)=>if(k==.free&&osc.kind==.function&&osc.names.lookup n==some .cell) then(n,.cell) else(n,k)}
def D4(scope osc:Scope):Bool:=
 (scope.kind==.function)&&(osc.kind==.function)&&scope.names.all fun(n,k)=>(k != .free || !scope.names.contains (n,NameKind.cell))&&(k != .local||scope.names.lookup n==some .local) &&
  (k != .free||osc.names.lookup n==some .cell||osc.names.lookup n==some .free)&&(k != .free||(x5 scope osc).names.lookup n != some .local)
structure bB(scope osc:Scope):Prop where
 kind:scope.kind=.function
 sep:∀x∈scope.names,x.2=.free->(x.1,NameKind.cell)∉scope.names
 loc:∀x∈scope.names,x.2=.local->scope.names.lookup x.1=some .local
 free:∀x∈scope.names,x.2=.free->osc.names.lookup x.1=some .cell\/osc.names.lookup x.1=some .free
 nl:∀x∈scope.names,x.2=.free->(x5 scope osc).names.lookup x.1≠some .local
theorem bB.of{scope osc:Scope}(h:D4 scope osc=true):bB scope osc:=by
 unfold D4 at h;rw[q0L,q0L,Ng]at h;obtain⟨⟨h1,h0⟩,h2⟩:=h;refine⟨by simpa using h1,λx a e=>?_,λx a e=>?_,λx a e=>?_,λx a e=>?_⟩
 all_goals
  obtain⟨n,k⟩:=x;have q:=h2 (n,k) a;simp only[q0L,Bool.or_eq_true,bne_iff_ne,beq_iff_eq]at q
 ·have z:=q.1.1.1.resolve_left (λz=>z e)
  simpa using z
 ·exact q.1.1.2.resolve_left (λz=>z e)
 ·rcases q.1.2 with(z | z) | z
  ·exact q0N e z
  ·exact .inl z
  ·exact .inr z
 ·exact q.2.resolve_left (λz=>z e)
theorem gU{osc:Scope}:∀{ns:List (Str×NameKind)} {x:Str} {k':NameKind},
  (ns.map fun(n,k)=>if(k==NameKind.free&&osc.kind==.function&&osc.names.lookup n==some .cell) then(n,NameKind.cell) else(n,k)).lookup x=some k' ->
  (k'=.cell\/k'=.free)->(x,NameKind.free)∈ns\/(x,NameKind.cell)∈ns
 | [],_,_,h,_=>by simp at h
 | (n,k)::r,x,k',h,hk'=>by
  rw[M4]at h
  by_cases q:x=n
  ·subst q
   by_cases z:(k==NameKind.free&&osc.kind==.function&&osc.names.lookup x==some .cell)=true
   ·have:k=.free:=by
     simp only[q0L,beq_iff_eq]at z;exact z.1.1
    subst this;exact .inl q0B
   ·simp only[z,q0V,if_false]at h
    rw[List.lookup_cons]at h;simp at h;subst h;rcases hk' with e | e
    ·subst e;exact .inr q0B
    ·subst e;exact .inl q0B
  ·have a:(x==n)=false:=by simpa using q
   refine(gU (osc:=osc) (k':=k') (ns:=r) (x:=x) ?_ hk').imp (MN _) (MN _)
   by_cases z:(k==NameKind.free&&osc.kind==.function&&osc.names.lookup n==some .cell)=true
   ·simp only[z,if_true]at h
    rw[List.lookup_cons,a]at h;exact h
   ·simp only[z,q0V,if_false]at h
    rw[List.lookup_cons,a]at h;exact h
theorem kT:∀(ns:List (Str×NameKind)) (n:Nat) (acc:List (Str×Addr)),cellsFrom n ns acc=cellsFrom n ns []++acc
 | [],_,_=>rfl
 | (x,k)::r,n,acc=>by
  unfold cellsFrom
  split
  ·rw[kT r (n+1) ((x,n)::acc),kT r (n+1) [(x,n)],M9];rfl
  ·exact kT r n acc
theorem wH:∀{ns:List (Str×NameKind)} {n:Nat} {x:Str} {c:Addr},(x,c)∈cellsFrom n ns []->(x,NameKind.cell)∈ns
 | [],_,_,_,h=>nomatch h
 | (y,k)::r,n,x,c,h=>by
  unfold cellsFrom at h
  split at h
  ·rename_i hk
   rw[kT]at h;rcases MK.mp h with h | h
   ·exact MN _ (wH h)
   ·cases Mz.mp h
    have:k=.cell:=by simpa using hk
    subst this;exact q0B
  ·exact MN _ (wH h)
theorem wf:∀{ns:List (Str×NameKind)} {n:Nat} {x:Str} {acc:List (Str×Addr)},((x,NameKind.cell)∈ns\/∃c,acc.lookup x=some c)->∃c,(cellsFrom n ns acc).lookup x=some c
 | [],_,_,_,h=>h.elim (λz=>nomatch z) id
 | (y,k)::r,n,x,acc,h=>by
  unfold cellsFrom
  split
  ·refine wf ?_
   by_cases q:x=y
   ·subst q
    exact .inr ⟨n,by simp[List.lookup_cons]⟩
   ·have q':(x==y)=false:=by simpa using q
    rcases h with h | ⟨c,h⟩
    ·rcases MM.mp h with z | z
     ·cases z;exact q0N rfl q
     ·exact .inl z
    ·exact .inr ⟨c,by rw[List.lookup_cons,q'];exact h⟩
  ·rename_i hk
   refine wf ?_;rcases h with h | h
   ·rcases MM.mp h with z | z
    ·cases z;exact q0N rfl hk
    ·exact .inl z
   ·exact .inr h
def fo(env:Env)(scope:Scope)(C:Addr):List (Str×Addr):=cellsFrom (C+1) scope.names (gl env scope.names [])
theorem nJ:∀{ns:List (Str×NameKind)} {n:Nat} {x:Str} {c:Addr},(x,c)∈cellsFrom n ns []->n<=c
 | [],_,_,_,h=>nomatch h
 | (y,k)::r,n,x,c,h=>by
  unfold cellsFrom at h
  split at h
  ·rw[kT]at h
   rcases MK.mp h with h | h
   ·exact M5 (Nat.le_succ _) (nJ h)
   ·cases Mz.mp h
    exact MU _
  ·exact nJ h
theorem qY:∀{ns:List (Str×NameKind)} {n:Nat},(cellsFrom n ns []).Pairwise λx y=>x.2≠y.2
 | [],_=>List.Pairwise.nil
 | (y,k)::r,n=>by
  unfold cellsFrom
  split
  ·rw[kT]
   refine List.pairwise_append.mpr ⟨qY,by simp,λa ha b hb e=>?_⟩;cases Mz.mp hb;have:=nJ (x:=a.1) (c:=a.2) ha;rw[e]at this;exact q0N this (Nat.not_succ_le_self _)
  ·exact qY
theorem jL{env:Env}{scope:Scope}{c:Addr}(h:(fo env scope C).lookup x=some c) :
  ((x,c)∈cellsFrom (C+1) scope.names []/\C<c/\(x,NameKind.cell)∈scope.names)\/((cellsFrom (C+1) scope.names []).lookup x=none/\(gl env scope.names []).lookup x=some c):=by
 unfold fo at h;rw[kT,List.lookup_append]at h;cases q:(cellsFrom (C+1) scope.names []).lookup x with
 |none=>rw[q]at h;exact .inr ⟨rfl,h⟩
 |some d=>
  rw[q]at h;cases h;have:=mem_of_lookup q;exact .inl ⟨this,nJ this,wH this⟩
theorem E8{ns:List (Str×NameKind)}{x:Str}(h:(x,NameKind.cell)∉ns):(cellsFrom n ns []).lookup x=none:=by
 cases q:(cellsFrom n ns []).lookup x with
 |none=>rfl
 |some d=>exact q0N (wH (mem_of_lookup q)) h
section
variable {M:Model}{A:NE}{E:Nq}{s:Nv}
theorem gz{scope:Scope}{globals:Addr}{closure:List (Str×Addr)}{qual:Str}{func:NG}{code:Value}{outer:Env}{builtins:Addr}{Q:Env->Shared->Prop}
  (hQ:Q (newEnv scope s.heap.objs.size globals (cellsFrom (s.heap.objs.size+1) scope.names closure) qual func code (some outer) builtins) {s with heap:=pushCells (s.heap.push {cls:=.type "dict",data:=.dict #[]}) scope.names}) :
  wpAny M A (newFunctionEnv scope globals closure [] qual func code (some outer) builtins) Q E s:=by
 simp only[newFunctionEnv,Option.isSome_some,if_true];simp only[newEnv]at hQ;refine q04 (wpAny_alloc ?_);refine q04 (wpAny_layCells _ (λname a cells=>by cases b:a==NameKind.cell<;>simp[b]) _ _ _ _ ?_);rw[show({s with heap:=s.heap.push {cls:=.type "dict",data:=.dict #[]} }:Shared).heap.objs.size=s.heap.objs.size+1 from Heap.size_push ..];rw[List.forIn_nil];exact q04 (q05 (q05 hQ))
end
def Cx.blk(X:Cx)(N':ND)(s₂:Nv)(H₂:Hp)(scope:Scope)(fp:Ny)(C:Addr):Cx where
 prog:=X.prog
 w:=X.w
 K:=X.K
 mg:=X.mg
 base:=X.base
 A:=X.A
 N:=N'
 s₀:=s₂
 H₀:=H₂
 env:=compEnvC scope (fo X.env scope C) C X.env
 outer:=X.stack
 stack:=X.stack
 ex:=fp
 fn:=λx=>scope.names.contains (x,NameKind.cell)
 calm:=X.calm
 pn:=[]
 xe:=λ_ _=>False
def ux(k:Nat)(js:Nu)(σ:St):St:=List.replicate k none++js.map λj=>(σ[j]?).join
def si(own:ND)(js:Nu)(N:ND):List Str:=own++js.map λj=>N.getD j Str.empty
section
variable {X:Cx}
theorem Inv.capFree{pins:Nt}{σ:St}{scope:Scope}(I:Inv X pins σ H s)(hk:bB scope X.env.scope):∀x∈scope.names,x.2=.free->∃c,X.env.cells.lookup x.1=some c:=
 λx hx e=>I.ok.has x.1 (hk.free x hx e)
theorem Inv.capL{pins:Nt}{σ:St}{scope:Scope}{c:Addr}(I:Inv X pins σ H s)(hk:bB scope X.env.scope)(e:(gl X.env scope.names []).lookup x=some c):X.env.cells.lookup x=some c:=
 jm (I.capFree hk) (λ_ _ z=>by simp at z) e
theorem Inv.blkL{pins:Nt}{σ:St}{scope:Scope}{c:Addr}(I:Inv X pins σ H s)(hk:bB scope X.env.scope)(e:(fo X.env scope C).lookup x=some c) :
  ((x,c)∈cellsFrom (C+1) scope.names []/\C<c/\(x,NameKind.cell)∈scope.names)\/X.env.cells.lookup x=some c:=
 (jL e).imp id λz=>I.capL hk z.2
theorem HG{pins:Nt}{σ:St}{scope:Scope}{fp:Ny}{C:Addr}(I:Inv X pins σ H s)(hk:bB scope X.env.scope)(hC:s.heap.objs.size<=C)
  (hf:∀b∈fp,pX X pins H b) (ho:∀b∈fp,∃o,s.heap.get? b=some o):(X.blk N' s H scope fp C).Ok where
 mod:=I.ok.mod
 kind:=hk.kind
 glob:=I.ok.glob
 blt:=I.ok.blt
 above:=hC
 inj:=λx y c e1 e2=>by
  have low:∀z,X.env.cells.lookup z=some c->c<C:=λz e=>by
   obtain⟨v,q⟩:=I.cell z c e;exact MP q.lt hC
  rcases I.blkL hk e1 with⟨a1,a2,_⟩ | a<;>rcases I.blkL hk e2 with⟨b1,b2,_⟩ | b
  ·exact name_of_addr qY a1 b1
  ·exact q0N (low _ b) (Nat.not_lt.mpr (q0M a2))
  ·exact q0N (low _ a) (Nat.not_lt.mpr (q0M b2))
  ·exact I.ok.inj x y c a b
 has:=λx h=>by
  refine wf ?_;have z:(x,NameKind.free)∈scope.names\/(x,NameKind.cell)∈scope.names:=by
   rcases h with h | h
   ·exact gU (osc:=X.env.scope) h (.inl rfl)
   ·exact gU (osc:=X.env.scope) h (.inr rfl)
  rcases z with z | z
  ·exact .inr (qx (.inr z))
  ·exact .inl z
 cab:=λx c z e=>by
  have l:(x,NameKind.cell)∈scope.names:=by
   have k:scope.names.contains (x,NameKind.cell)=true:=z
   simpa using k
  have j:(fo X.env scope C).lookup x=some c:=e;rcases jL j with⟨_,a,_⟩ | ⟨a,_⟩
  ·exact M5 hC (q0M a)
  ·obtain⟨d,q⟩:=wf (n:=C+1) (acc:=[]) (.inl l)
   rw[a]at q;cases q
 hd:=I.ok.hd
 frames:=I.ok.frames
 stk:=.inl rfl
 exf:=λb g=>⟨λe=>by
  obtain⟨o,q⟩:=ho b g;have j:b=C:=e;rw[j]at q;exact q0N (MX q) (Nat.not_lt.mpr hC),λx c e=>by
  rcases I.blkL hk e with⟨_,a,_⟩ | a
  ·obtain⟨o,q⟩:=ho b g
   intro z;rw[z]at a;exact q0N (MP (MX q) hC) (Nat.not_lt.mpr (q0M a))
  ·exact(hf b g).2.2.2.2.1 x c a⟩
 bs:=I.bs
 bsz:=M5 I.ok.bsz I.sz
 noex:=λb o e g=>by
  rcases(hf b g).2.2.2.1 with z | z
  ·exact I.ok.noex b o e z
  ·exact q0N (MX (I.ok.bs b o e).1) (Nat.not_lt.mpr z)
 exfs:=λb g m=>by
  rcases MM.mp (I.stkSub b m) with z | z
  ·exact(hf b g).2.1 z
  ·exact(hf b g).2.2.1 z
 funs:=I.stack
 frf:=I.stkFree
theorem Be{pins:Nt}{σ:St}{s1:Nv}{own:ND}{js:Nu}{scope:Scope}{fp:Ny}{C:Addr}(I:Inv X pins σ H s)(hk:bB scope X.env.scope)(hC:s.heap.objs.size<=C)
  (hf:∀b∈fp,pX X pins H b) (ho:∀b∈fp,∃o,s.heap.get? b=some o) (hos:s1.os=s.os) (hg:s1.gens=s.gens) (hn:s1.heap.Ns C m) (keep:∀b o,s.heap.get? b=some o->s1.heap.get? b=some o)
  (hown:∀x c,(x,c)∈cellsFrom (C+1) scope.names []->s1.heap.IsCell c none) (hcap:(js.all λj=>scope.names.contains (X.N.getD j Str.empty,NameKind.free))=true) :
  Inv (X.blk (si own js X.N) s H scope fp C) [] (ux own.length js σ) H s1:=by
 have cl:=fun{x:Str} {c:Addr} (e:(gl X.env scope.names []).lookup x=some c)=>jm (I.capFree hk) (λ_ _ z=>by simp at z) e;refine⟨HG I hk hC hf ho,hos,hg▸I.bare,Un.kept keep,⟨m,hn,λi x v e1 e2 Z=>?_⟩,λx c e=>?_,I.hok.fresh hC,λx c e=>(I.blkL hk e).elim (λz=>I.hok.fresh (M5 hC (q0M z.2.1))) λz=>I.freeC x c z,λp R=>(nomatch R),I.hok.kept keep,?_⟩
 ·have g:(own++js.map λj=>X.N.getD j Str.empty)[i]?=some x:=e1
  have a:(List.replicate own.length none++js.map λj=>(σ[j]?).join)[i]?=some (some v):=e2
  by_cases B:i<own.length
  ·rw[MS (by rw[List.length_replicate];exact B),List.getElem?_replicate,q07 B]at a
   cases a
  ·have l:own.length<=i:=Nat.le_of_not_lt B
   rw[MR (by rw[List.length_replicate];exact l),List.length_replicate,MA]at a;rw[MR l,MA]at g;cases D:js[i-own.length]? with
   |none=>rw[D]at g;cases g
   |some j=>
    rw[D]at g a;have L:X.N.getD j Str.empty=x:=q0P g;have r:(σ[j]?).join=some v:=q0P a;have J:σ[j]?=some (some v):=by
     cases q:σ[j]? with
     |none=>rw[q]at r;cases r
     |some z=>rw[q]at r;simp at r;rw[r]
    have y:j<X.N.length:=by rw[<- I.len];exact(Mw.mp J).1
    have U:X.N[j]?=some x:=by rw[<- L,q0A,Mv y];rfl
    have w:(x,NameKind.free)∈scope.names:=by
     have q:=Ng.mp hcap j (MB D);rw[L]at q
     simpa using q
    have G:=hk.free _ w rfl;obtain⟨mo,hno,S⟩:=I.loc;obtain⟨u,M,O⟩:=S j x v U J (G.elim (λz=>.inr (.inl z)) λz=>.inr (.inr z));refine⟨u,M,?_⟩;rcases O with⟨k,_⟩ | ⟨k,c,Y,T⟩
    ·rcases G with z | z
     ·rw[show X.env.kindOf x=X.env.scope.names.lookup x from rfl,z]at k;cases k
     ·rw[show X.env.kindOf x=X.env.scope.names.lookup x from rfl,z]at k;cases k
    ·obtain⟨c',n⟩:=qx (env:=X.env) (ns:=scope.names) (acc:=[]) (x:=x) (.inr w)
     have:=cl n;rw[Y]at this;cases this;refine .inr ⟨?_,c,?_,T.keeps keep⟩
     case refine_2=>
      show(fo X.env scope C).lookup x=some c;unfold fo;rw[kT,List.lookup_append,E8 (hk.sep _ w rfl)];exact n
     -- its kind within the block
     rcases Z with z | z | z
     ·exact q0N z (hk.nl _ w rfl)
     ·exact .inl z
     ·exact .inr z
 ·rcases I.blkL hk e with z | z
  ·exact⟨none,hown x c z.1⟩
  ·obtain⟨v,z⟩:=I.cell x c z
   exact⟨v,z.keeps keep⟩
 ·show(List.replicate own.length none++js.map λj=>(σ[j]?).join).length=(own++js.map λj=>X.N.getD j Str.empty).length
  simp
def G3(env:Env)(ifs:NH):Sem Bool:=forIn ifs true λc r=>if r=true then do let ok <- isTrue c env (eval c env);pure (ForInStep.yield ok) else pure (ForInStep.yield r)
theorem wz{prog:NC}{A:NE}{R:Result->Shared->Prop}{s:Nv}{elt target iter:Expr}{ifs:NH}{scope:Scope}{pos:Pos}{it acc:Value}{env:Env}(I:Nat->Shared->Prop)
  (turn:∀n s,I n s->wpAny (model prog w) A (pyNext it) (λr s₁=>match r with
   |none=>R (.ok .next) s₁
   |some v=>wpAny (model prog w) A (letOwnedTupleGo target it v) (λ_ s₁'=>wpAny (model prog w) A (assign target env v) (λ_ s₂=>
     wpAny (model prog w) A (G3 env ifs) (λok s₃=>
      if ok=true then wpAny (model prog w) A (eval elt env) (λx s₄=>
       wpAny (model prog w) A (call (.builtin "list.append") [acc,x]) (λ_ s₅=>∃m,m<n/\I m s₅) (λ_ _=>False) s₄) (λ_ _=>False) s₃
      else ∃m,m<n/\I m s₃) (λ_ _=>False) s₂) (λ_ _=>False) s₁') (λ_ _=>False) s₁) (λ_ _=>False) s)
  (n:Nat) (h:I n s) :
  codeAny (model prog w) A (.compLoop (.ListComp elt [⟨target,iter,ifs,0⟩] scope pos) 0 it acc env) R s:=by
 refine codeAny_loop rfl I (λn s o=>?_) n h;show wpAny _ A ((compTurn (.ListComp elt [⟨target,iter,ifs,0⟩] scope pos) 0 it acc env).onRaise (λx=>do noteFrame x env;theTreesLotGoes x)) _ _ s;refine wpAny_noted ?_;rw[compTurn_list];have up:∀{α:Type} {t:Sem α} {Q Q':α->Shared->Prop} {E':Nq} {s:Nv},wpAny (model prog w) A t Q (λ_ _=>False) s->(∀a s,Q a s->Q' a s)->wpAny (model prog w) A t Q' E' s:=
  λh l=>q0S h l λ_ _ f=>f.elim
 refine q04 (wpAny_standAt (q04 (up (turn n s o) λr s₁ e=>?_)));cases r with
 |none=>exact q05 e
 |some v=>
  refine q04 (up e λ_ s₁' b=>q04 (up b λ_ s₂ k=>q04 (up k λok s₃ c=>?_)));cases ok with
  |false=>exact q05 ⟨rfl,c⟩
  |true=>
   exact q04 (q04 (up c λx s₄ j=>q04 (up j λ_ s₅ g=>q05 (q05 ⟨rfl,g⟩))))
def I_(X:Cx)(ifs:NH)(t:TT):Prop:=
 ∀(pins:Nt) (s:Nv) (σ:St) (H:Hp) (Q:Bool->Hp->Prop),Inv X pins σ H s->t σ H Q->wpAny (model X.prog X.w) X.A (G3 X.env ifs) (TP X pins σ Q) X.xe s
def Av:TT:=λ_ H Q=>Q true H
theorem bK:I_ X [] Av:=λpins s σ H Q I h=>wpAny_tests_nil ⟨H,I,h⟩
def i4(J:It)(g:TG)(ti:TT)(te:TE)(σ:St)(H:Hp)(Q:List V->Hp->Prop):Prop:=
 ∃W:Nat->Nat->List V->St->Hp->Prop,(∃m,W 0 m [] σ H)/\∀i m acc σ' H',W i m acc σ' H' ->
  acc.length<sizeLine/\((J.stop i H'/\Q acc H') \/
   (J.go i H'/\∃N:List V->St->Hp->Prop,(∀acc' σ2 H2,N acc' σ2 H2->∃m',m'<m/\W (i+1) m' acc' σ2 H2) /\
    ∀x H2,J.yld i H' x H2->g x σ' H2 λσ2 H3=>ti σ2 H3 λb H4=>if b=true then te σ2 H4 λv H5=>N (acc++[v]) σ2 H5 else N acc σ2 H4))
def AV(k:Nat)(js:Nu)(wi:TI)(g:TG)(ti:TT)(te:TE):TE:=λσ H Q=>wi σ H λJ H1=>i4 J g ti te (ux k js σ) H1 λacc H'=>∀l,H' l=none->Q (.ref l) (aC H' l (.lst acc))
abbrev iF(its:Nw)(n:Nat):Obj:={cls:=.type "list",data:=.seq its.toArray n}
theorem ur{pins:Nt}{σ:St}{H:Hp}{s:Nv}{elt tg iter:Expr}{ifs:NH}{scope:Scope}{pos:Pos}{own:ND}{js:Nu}{ti:TT}{te:TE}{fp:Ny}{it:Addr}{tn:Nat->Heap->Prop}{E:Nq}
  {RR:Value->Addr->Result->Shared->Prop} (hc:X.calm=true) (hk:bB scope X.env.scope) (hcap:(js.all λj=>scope.names.contains (X.N.getD j Str.empty,NameKind.free))=true)
  (hg:∀s H fp C,PG (X.blk (si own js X.N) s H scope fp C) tg g) (hi:∀s H fp C,I_ (X.blk (si own js X.N) s H scope fp C) ifs ti) (he:∀s H fp C,PE (X.blk (si own js X.N) s H scope fp C) elt te)
  (I:Inv X pins σ H s) (T:rP X.prog X.w X.K tg J fp it tn) (st:tn 0 s.heap) (hf:∀b∈fp,pX X pins H b)
  (hW:i4 J g ti te (ux own.length js σ) H Q)
  (hRR:∀(D C:Addr) (s':Nv) (H':Hp) (acc:List V) (m:Nz),Q acc H'->H' D=none->Inv X pins σ (aC H' D (.lst acc)) s'->s'.heap.Ns C m->aC H' D (.lst acc) C=none->C≠X.env.locals->X.s₀.heap.objs.size<=C ->
   (∀x c,X.env.cells.lookup x=some c->c≠C)->(∀p∈X.pn++pins,p.1≠C)->RR (.ref D) C (.ok .next) s') :
  wpAny (model X.prog X.w) X.A (newList []) (λacc s₃=>wpAny (model X.prog X.w) X.A (newFunctionEnv scope X.env.globals (gl X.env scope.names []) [] X.env.qual none .none (some X.env)) (λcenv s₄=>
   codeAny (model X.prog X.w) X.A (.compStart (.ListComp elt [⟨tg,iter,ifs,0⟩] scope pos) 0 (.ref it) acc {cenv with scope:=relabel scope X.env}) (RR acc cenv.locals) s₄) E s₃) E s:=by
 obtain⟨W,⟨m0,w0⟩,c2⟩:=hW;refine wpAny_newObj_type (gz ?_);dsimp only;generalize b4:s.heap.push {cls:=.type "list",dict:=none,data:=.seq ([]:List Value).toArray}=H2;generalize d1:pushCells (H2.push {cls:=.type "dict",data:=.dict #[]}) scope.names=h₁;have b1:∀b o,(H2.push {cls:=.type "dict",data:=.dict #[]}).get? b=some o->h₁.get? b=some o:=λb o e=>d1▸pushCells_keeps _ _ b o e;have c9:h₁.Ns H2.objs.size λ_=>none:=by
  have q:(H2.push {cls:=.type "dict",data:=.dict #[]}).Ns H2.objs.size λ_=>none:=Heap.Ns.new ..;exact q.at' λo e=>b1 _ o e
 have b2:∀x c,(x,c)∈cellsFrom (H2.objs.size+1) scope.names []->h₁.IsCell c none:=λx c e=>by
  have ok:=cellsFrom_ok scope.names (H2.push {cls:=.type "dict",data:=.dict #[]}) (H2.objs.size+1) [] ⟨λ_ _ hm=>(nomatch hm),List.Pairwise.nil⟩ (by rw[Heap.size_push];exact MU _);rw[Heap.size_push,d1]at ok;exact(ok.empty x c e).1
 have hC:H2.objs.size=s.heap.objs.size+1:=by rw[<- b4,Heap.size_push]
 have c0:s.heap.objs.size≠H2.objs.size:=by rw[hC];exact MQ (M7 _)
 have L:s.heap.objs.size<=H2.objs.size:=by rw[hC];exact Nat.le_succ _
 have c1:∀b,b<s.heap.objs.size->b≠H2.objs.size/\b≠s.heap.objs.size:=λb l=>⟨by rw[hC];exact MQ (Nat.lt_succ_of_lt l),MQ l⟩;have old:∀b o,s.heap.get? b=some o->h₁.get? b=some o:=λb o e=>b1 b o (Mx _ (b4▸Mx _ e));have d6:h₁.get? s.heap.objs.size=some (iF [] 0):=b1 _ _ (Mx _ (b4▸MD _ rfl));have a0:∀b∈fp,∃o,s.heap.get? b=some o:=λb l=>let ⟨o,e,_⟩:=T.obj 0 _ st b l;⟨o,e⟩
 have c3:tn 0 h₁:=T.keep 0 _ _ st λb _ o e=>old b o e;generalize B:X.blk (si own js X.N) s H scope fp H2.objs.size=Xb;have I₁:Inv Xb [] (ux own.length js σ) H {s with heap:=h₁}:=B▸Be I hk L hf a0 rfl rfl c9 old b2 hcap;have eP:Xb.prog=X.prog:=by rw[<- B];rfl
 have ew:Xb.w=X.w:=by rw[<- B];rfl
 have eK:Xb.K=X.K:=by rw[<- B];rfl
 have eA:Xb.A=X.A:=by rw[<- B];rfl
 have ec:Xb.calm=true:=by rw[<- B];exact hc
 have eE:Xb.env=compEnvC scope (fo X.env scope H2.objs.size) H2.objs.size X.env:=by rw[<- B];rfl
 have ex:Xb.xe=λ_ _=>False:=by rw[<- B];rfl
 have es:Xb.s₀=s:=by rw[<- B];rfl
 have eh:Xb.H₀=H:=by rw[<- B];rfl
 have ef:Xb.fs=l5 X.stack:=by rw[<- B];rfl
 have e0:Xb.ex=fp:=by rw[<- B];rfl
 have ep:Xb.pn=[]:=by rw[<- B];rfl
 have eL:Xb.env.locals=H2.objs.size:=by rw[eE];rfl
 have e9:H s.heap.objs.size=none:=I.hok.fresh (MU _)
 -- D is no iterator's,no frame's
 have d7:∀b∈fp,b≠s.heap.objs.size:=λb l e=>by
  obtain⟨o,q⟩:=a0 b l;rw[e]at q;exact q0N (MX q) (M6 _)
 have e8:s.heap.objs.size∉Xb.fs:=λz=>by
  rw[ef]at z;rcases MM.mp (I.stkSub _ z) with q | q
  ·exact q0N I.lt (by rw[<- q];exact M6 _)
  ·exact I.nofs (MU _) q
 have a5:∀x c,Xb.env.cells.lookup x=some c->c≠s.heap.objs.size:=λx c e q=>by
  rcases I.blkL hk (C:=H2.objs.size) (x:=x) (c:=c) (by rw[eE]at e;exact e) with⟨_,z,_⟩ | z
  ·rw[q]at z
   exact q0N L (Nat.not_le.mpr z)
  ·obtain⟨v,o,ho,_⟩:=I.cell x c z
   rw[q]at ho;exact q0N (MX ho) (M6 _)
 have R:∀{pl:Nt} {H':Hp},(∀b∈fp,H' b=none)->(∀p∈pl,p.1=s.heap.objs.size)->∀b∈fp,pX Xb pl H' b:=λhn S b l=>by
  refine⟨hn b l,?_,?_,.inl (by rw[e0];exact l),λx c e=>?_,λp c6=>?_⟩
  ·rw[eL];exact(c1 b (let ⟨o,q⟩:=a0 b l;MX q)).1
  ·rw[ef];intro z
   rcases MM.mp (I.stkSub b z) with q | q
   ·exact(hf b l).2.1 q
   ·exact(hf b l).2.2.1 q
  ·rcases I.blkL hk (C:=H2.objs.size) (x:=x) (c:=c) (by rw[eE]at e;exact e) with⟨_,z,_⟩ | z
   ·intro q
    rw[q]at z;obtain⟨o,q2⟩:=a0 b l;exact q0N (MP (MX q2) L) (Nat.not_lt.mpr (q0M z))
   ·exact(hf b l).2.2.2.2.1 x c z
  ·rw[ep,Nj]at c6
   rw[S p c6];exact(d7 b l).symm
 have a6:∀s₃:Shared,s₃={s with heap:=h₁} ->
   codeAny (model X.prog X.w) X.A (.compLoop (.ListComp elt [⟨tg,iter,ifs,0⟩] scope pos) 0 (.ref it) (.ref s.heap.objs.size) (compEnvC scope (fo X.env scope H2.objs.size) H2.objs.size X.env))
    (RR (.ref s.heap.objs.size) H2.objs.size) s₃:=by
  rintro s₃ rfl;refine wz (λn s'=>∃(i:Nat) (acc:List V) (a:Nw) (k:Nat) (σ':St) (H':Hp),Inv Xb [] σ' H' s'/\tn i s'.heap/\(∀b∈fp,H' b=none)/\H' s.heap.objs.size=none/\s'.heap.get? s.heap.objs.size=some (iF a k)/\bq acc a/\W i n acc σ' H')
   ?_ m0 ⟨0,[],[],0,_,H,I₁,c3,λb l=>(hf b l).1,e9,d6,.nil,w0⟩
  rintro n s' ⟨i,acc,a,k,σ',H',I',st',d8,M,e3,Z,w'⟩;obtain⟨d0,tt⟩:=c2 i n acc σ' H' w'
  -- the gathered list,pinned
  have Ip:Inv Xb [(s.heap.objs.size,iF a k)] σ' H' s':=I'.pins_of λp S=>by
   have e:p=(s.heap.objs.size,iF a k):=by simpa using S
   subst e;exact⟨e3,M,by rw[eL];exact c0,e8,λv z=>by cases z⟩
  have b0:∀p∈[(s.heap.objs.size,iF a k)],p.1=s.heap.objs.size:=λp S=>by
   have e:p=(s.heap.objs.size,iF a k):=by simpa using S
   rw[e]
  rcases tt with⟨c4,q⟩ | ⟨go,N,hN,step⟩
  ·have d:=T.done Xb eP ew eK ec i _ s' σ' H' (λ_ _=>False) Ip (R d8 b0) st' c4
   rw[eA]at d;refine q0S d (λr s1 hr=>?_) λ_ _ z=>z;obtain⟨rfl,I1⟩:=hr;have e2:s1.heap.get? s.heap.objs.size=some (iF a k):=(I1.pin _ (q0C _ (Mz.mpr rfl))).1;obtain⟨mC,b3,_⟩:=I1.loc;rw[eL]at b3;obtain⟨oC,_,_,hoC,_⟩:=id b3;have f0:H' H2.objs.size=none:=by have:=I1.free;rwa [eL]at this
   have ub:Un (l5 X.stack) fp H H' s.heap s1.heap:=by have:=I1.base;rwa [ef,e0,eh,es]at this
   refine hRR _ _ s1 H' acc mC q M ?_ b3 ?_ ?_ ?_ ?_ ?_
   ·-- vH outside
    refine I.call' (ch:=fp) (by have:=I1.os;rwa [es]at this) ⟨λb o e n1 h1 h2=>ub.keep b o e n1 h1 h2,λb o e n1 h1 h2=>ub.slot b o e n1 h1 h2,λb o e n1 h1=>?_,ub.there,λb xs e=>?_,λb o u e=>?_,λb ps e=>?_⟩ ?_ (by have:=I1.bare;exact this) λb l=>?_
    ·rw[aq (λz=>by rw[z]at e;exact q0N (MX e) (M6 _))]
     exact ub.free b o e n1 h1
    ·rw[aq (aK (ub.tups b xs e) M)]
     exact ub.tups b xs e
    ·rw[aq (aK (ub.frzs b o u e) M)]
     exact ub.frzs b o u e
    ·obtain⟨more,z⟩:=ub.tbls b ps e
     exact⟨more,by rw[aq (aK z M)];exact z⟩
    ·intro b u e
     have a7:=I1.hok;rw[eP,ew]at a7
     by_cases l:b=s.heap.objs.size
     ·subst l
      rw[ad]at e;cases e;exact⟨q0M d0,a,k,Z,e2⟩
     ·rw[aq l]at e
      refine(a7 b u e).stay (λc v _ z=>z) (λc z=>?_) λc xs z=>?_
      ·rw[aq (aK z M)];exact z
      ·rw[aq (aK z M)];exact z
    ·exact⟨(hf b l).2.2.2.1,(hf b l).2.1,(hf b l).2.2.2.2.1,(hf b l).2.2.2.2.2⟩
   ·rw[aq c0.symm];exact f0
   ·intro z;have:=I.lt;rw[<- z]at this;exact q0N this (Nat.not_lt.mpr L)
   ·exact M5 I.sz L
   ·intro x c e z
    obtain⟨v,o,ho,_⟩:=I.cell x c e;rw[z]at ho;exact q0N (MX ho) (Nat.not_lt.mpr L)
   ·intro p S z
    have:=(I.pin p S).1;rw[z]at this;exact q0N (MX this) (Nat.not_lt.mpr L)
  ·have d:=T.item Xb eP ew eK ec i _ s' σ' H' (λ_ _=>False) Ip (R d8 b0) st' go
   rw[eA]at d;refine q0S d (λr s1 hr=>?_) λ_ _ z=>z;obtain⟨u,rfl,d2⟩:=hr;refine q0S d2 (λ_ s2 e7=>?_) λ_ _ z=>z;obtain⟨x,e1,I2,r2,y2,a9,f1⟩:=e7;have f2:=I2.pinned (R f1 b0) (T.obj _ _ a9);have G:=B▸hg s H fp H2.objs.size;have d3:=G _ s2 σ' e1 x u _ f2 r2 (step x e1 y2);rw[eP,ew,eA,ex,eE]at d3;refine q0S d3 (λ_ s3 e6=>?_) λ_ _ z=>z;obtain⟨σ3,H3,I3,q3⟩:=e6;have Gi:=B▸hi s H fp H2.objs.size;have d4:=Gi _ s3 σ3 H3 _ I3 q3;rw[eP,ew,eA,ex,eE]at d4;refine q0S d4 (λb s4 e5=>?_) λ_ _ z=>z;obtain⟨H4,I4,q4⟩:=e5;have U:∀{O:Nv} {Y:Hp} {σ5:St},Inv Xb ([(s.heap.objs.size,iF a k)]++rN fp s2.heap) σ5 Y O->O.heap.get? s.heap.objs.size=some (iF a k)/\Y s.heap.objs.size=none/\tn (i+1) O.heap/\∀b∈fp,Y b=none:=fun{O Y σ5} I5=>by
    have pD:=I5.pin (s.heap.objs.size,iF a k) (q0C _ (List.mem_append_left _ (Mz.mpr rfl)));refine⟨pD.1,pD.2.1,T.keep _ _ _ a9 λb l o e=>(I5.pin (b,o) (q0C _ (q0C _ (jF l e)))).1,λb l=>?_⟩;obtain⟨o,e,_⟩:=T.obj _ _ a9 b l;exact(I5.pin (b,o) (q0C _ (q0C _ (jF l e)))).2.1
   have bare:∀{O:Nv} {Y:Hp} {σ5:St} {pl:Nt},Inv Xb pl σ5 Y O->Inv Xb [] σ5 Y O:=λI5=>I5.pins_of λp S=>nomatch S;cases b with
   |false=>
    obtain⟨m',hm,w5⟩:=hN _ _ _ q4;obtain⟨a1,a2,a3,a4⟩:=U I4;exact⟨m',hm,i+1,acc,a,k,σ3,H4,bare I4,a3,a4,a2,a1,Z,w5⟩
   |true=>
    have Ge:=B▸he s H fp H2.objs.size;have d5:=Ge _ s4 σ3 H4 _ I4 q4;rw[eP,ew,eA,ex,eE]at d5;refine q0S d5 (λy O e4=>?_) λ_ _ z=>z;obtain⟨v,Y,I5,r5,q5⟩:=e4;obtain⟨m',hm,w5⟩:=hN _ _ _ q5;obtain⟨a1,a2,a3,a4⟩:=U I5;have hl:=Z.length;refine call_meets F.slot_list_append ⟨_,a1,rfl⟩ F.entry_list_append (F.args_list_append_2 _ _) (PySem.list_append s.heap.objs.size a.toArray k y (by rw[ME];omega)) ⟨a1,?_⟩;have qu:=PySem.IsL.update a1 (λa8=>a8.push y);have qe:(a.toArray.push y)=(a++[y]).toArray:=by simp
    rw[qe]at qu;have I6:Inv Xb [] σ3 Y {O with heap:=O.heap.update s.heap.objs.size (Obj.mapSeq λa8=>a8.push y),toks:=O.toks}:=
     (bare I5).turned (λb o l e=>(MC O.heap _ (Ne.symm l)).trans e) a2 (by rw[eL];exact c0) (.inr (by rw[es];exact MU _)) a5 (by rw[ep];intro p S;exact nomatch S)
    refine⟨m',hm,i+1,acc++[v],a++[y],_,σ3,Y,I6,T.keep _ _ _ a3 (λb l o e=>(MC O.heap _ (d7 b l).symm).trans e),a4,a2,qu,Z.append (.cons r5 .nil),w5⟩
 refine codeAny_compStart_list (a6 _ rfl) ?_;exact T.self _ 0 _ _ _ c3 (a6 _ rfl)
theorem b7{elt tg iter:Expr}{ifs:NH}{scope:Scope}{pos:Pos}(own:ND)(js:Nu){wi:TI}{g:TG}{ti:TT}{te:TE}(hc:X.calm=true)(hk:bB scope X.env.scope)
  (hcap:(js.all λj=>scope.names.contains (X.N.getD j Str.empty,NameKind.free))=true) (hw:PI X tg iter wi)
  (hg:∀s H fp C,PG (X.blk (si own js X.N) s H scope fp C) tg g) (hi:∀s H fp C,I_ (X.blk (si own js X.N) s H scope fp C) ifs ti) (he:∀s H fp C,PE (X.blk (si own js X.N) s H scope fp C) elt te)
  (hs:autoParam (∀x,foldedSetIterable iter X.env x=pure x) zz4._auto_1):PE X (.ListComp elt [⟨tg,iter,ifs,0⟩] scope pos) (AV own.length js wi g ti te):=by
 intro c s σ H Q I h;rw[eval_ListComp];refine wpAny_comprehension_free (use:=none) rfl hs (kF (I.capFree hk)) hk.kind hk.loc (bZ (hw c s σ H _ I h) λv s1 h1=>bZ h1 λitv s2 h2=>?_);obtain⟨it,fp,tn,J,H2,rfl,Y,T,k,U,R⟩:=h2;refine ur (RR:=λa C=>compPost (model X.prog X.w) X.A X.xe none (EP X c σ Q) a C) (Q:=λa B=>∀l,B l=none->Q (.ref l) (aC B l (.lst a))) hc hk hcap hg hi he Y T k U R ?_;intro D C L B a m q S Z M y u n r p;refine⟨m,M,λh' G=>?_⟩;exact⟨.ref D,_,Z.turned (t':=L.toks) (λb o O e=>(G.2 b O).trans e) y u (.inr n) r p,rfl,q D S⟩
theorem jA{i:Nat}{x:Str}{elt tg iter:Expr}{ifs:NH}{scope:Scope}{pos spos:Pos}{px:Pos}(own:ND)(js:Nu){wi:TI}{g:TG}{ti:TT}{te:TE}(hN:X.N.Nodup)(hxi:X.N[i]?=some x)(hx:Loc X.env.scope x)
  (hsw:swapsWith (.ListComp elt [⟨tg,iter,ifs,0⟩] scope pos) (some (.Name x px)) spos.line X.env=pure true)
  (hc:X.calm=true) (hk:bB scope X.env.scope)
  (hcap:(js.all λj=>scope.names.contains (X.N.getD j Str.empty,NameKind.free))=true) (hw:PI X tg iter wi)
  (hg:∀s H fp C,PG (X.blk (si own js X.N) s H scope fp C) tg g) (hi:∀s H fp C,I_ (X.blk (si own js X.N) s H scope fp C) ifs ti) (he:∀s H fp C,PE (X.blk (si own js X.N) s H scope fp C) elt te)
  (hs:autoParam (∀x,foldedSetIterable iter X.env x=pure x) zz4._auto_1) (hf:autoParam (X.fn x=true\/X.env.scope.names.lookup x=some .local) zz3._auto_1) :
  PS X (.Assign [.Name x px] (.ListComp elt [⟨tg,iter,ifs,0⟩] scope pos) spos) (BR (AV own.length js wi g ti te) (l8 i)):=by
 intro c s σ H Dn I h;rw[exec_Assign_Name_used _ _ _ _ hsw];refine q04 (wpAny_standAt (q04 ?_));show wpAny _ _ (do let _ <- comprehension (.ListComp elt [⟨tg,iter,ifs,0⟩] scope pos) scope X.env _ (newList []) false (eval iter X.env) (some (assign (.Name x px) X.env))) _ _ s;refine q04 (q0S (wpAny_comprehension_free (use:=some (assign (.Name x px) X.env)) (Q:=λ_ n=>SP X c Dn .next n) (E:=X.xe) rfl hs (kF (I.capFree hk)) hk.kind hk.loc ?_) (λ_ n q=>q05 (q05 q)) λ_ _ z=>z);refine(bZ (hw c s σ H _ I h) λv s1 h1=>bZ h1 λitv s2 h2=>?_);obtain⟨it,fp,tn,J,H2,rfl,I2,T,u,f2,hW⟩:=h2;refine ur (RR:=λk C=>compPost (model X.prog X.w) X.A X.xe (some (assign (.Name x px) X.env)) (λ_ n=>SP X c Dn .next n) k C) (Q:=λk U=>∀l,U l=none->l8 i (.ref l) σ (aC U l (.lst k)) Dn.nx) hc hk hcap hg hi he I2 T u f2 hW ?_;intro D C n U k m q hD I' Y R r L p M;show wpAny _ _ (assign (.Name x px) X.env (.ref D)) _ _ n;refine wpAny_assign_Name (ue I' hN hxi hx (v:=.ref D) rfl (λG S B=>?_) hf);obtain⟨a,B,ha⟩:=B;have O:C≠a:=by
  rcases ha with z | z
  ·rw[z];exact r
  ·exact(p x a z).symm
 refine⟨m,Y.sameBut B O,λh' y=>?_⟩;exact⟨_,_,S.turned (t':=G.toks) (λb o Z e=>(y.2 b Z).trans e) R r (.inr L) p M,q D hD⟩
end
section
variable {K:Nr}{g:TG}{ti:TT}{te:TE}{σ:St}{H:Hp}{Q:List V->Hp->Prop}
theorem jI{J:It}{n:Nat}(Pv:Nat->List V->St->Hp->Prop)(h0:Pv 0 [] σ H)(hz:∀i acc σ H,Pv i acc σ H->acc.length<sizeLine)(hi:∀i acc σ H,Pv i acc σ H->i<=n)
  (stop:∀acc σ H,Pv n acc σ H->J.stop n H) (go:∀i acc σ H,i<n->Pv i acc σ H->J.go i H)
  (hs:∀i x acc σ H H2,i<n->Pv i acc σ H->J.yld i H x H2->g x σ H2 λσ2 H3=>ti σ2 H3 λb H4=>if b=true then te σ2 H4 λv H5=>Pv (i+1) (acc++[v]) σ2 H5 else Pv (i+1) acc σ2 H4)
  (he:∀acc σ H,Pv n acc σ H->Q acc H) :
  i4 J g ti te σ H Q:=by
 refine⟨λi m acc σ H=>Pv i acc σ H/\m=n+1-i,⟨n+1,h0,rfl⟩,?_⟩;rintro i m acc σ' a ⟨w,rfl⟩;refine⟨hz i acc σ' a w,?_⟩;have hle:=hi i acc σ' a w;rcases Nat.lt_or_ge i n with c | hge
 ·refine .inr ⟨go i acc σ' a c w,λacc' σ2 H2=>Pv (i+1) acc' σ2 H2,λacc' σ2 H2 w2=>⟨n+1-(i+1),?_,w2,rfl⟩,λx H2 y=>hs i x acc σ' a H2 c w y⟩
  have:=hi (i+1) acc' σ2 H2 w2;omega
 ·have e:i=n:=by omega
  subst e;exact .inl ⟨stop acc σ' a w,he acc σ' a w⟩
theorem py{xs:List V}(Pv:Nat->List V->St->Hp->Prop)(h0:Pv 0 [] σ H)(hz:∀i acc σ H,Pv i acc σ H->acc.length<sizeLine)(hi:∀i acc σ H,Pv i acc σ H->i<=xs.length)
  (hl:∀i acc σ H,Pv i acc σ H->aT K H a xs)
  (hs:∀i x acc σ H,xs[i]?=some x->Pv i acc σ H->g x σ H λσ2 H3=>ti σ2 H3 λb H4=>if b=true then te σ2 H4 λv H5=>Pv (i+1) (acc++[v]) σ2 H5 else Pv (i+1) acc σ2 H4)
  (he:∀acc σ H,Pv xs.length acc σ H->Q acc H):i4 (Fx K a) g ti te σ H Q:=by
 exact jI (J:=Fx K a) (g:=g) (ti:=ti) (te:=te) (Q:=Q) (n:=xs.length) Pv h0 hz hi (λacc σ H w=>⟨xs,hl _ _ _ _ w,MU _⟩)
  (λi acc σ H hlt w=>⟨xs,xs[i],hl _ _ _ _ w,Mv hlt⟩) (λi x acc σ H H2 hlt w y=>by obtain⟨rfl,c⟩:=y;exact hs i x acc σ H2 (c xs (hl _ _ _ _ w)) w) he
theorem dE{lo:Int}{n:Nat}(Pv:Nat->List V->St->Hp->Prop)(h0:Pv 0 [] σ H)(hz:∀i acc σ H,Pv i acc σ H->acc.length<sizeLine)(hi:∀i acc σ H,Pv i acc σ H->i<=n)
  (hs:∀i acc σ H,i<n->Pv i acc σ H->g (.int (lo+i)) σ H λσ2 H3=>ti σ2 H3 λb H4=>if b=true then te σ2 H4 λv H5=>Pv (i+1) (acc++[v]) σ2 H5 else Pv (i+1) acc σ2 H4)
  (he:∀acc σ H,Pv n acc σ H->Q acc H):i4 (Dd lo n) g ti te σ H Q:=by
 exact jI (J:=Dd lo n) (g:=g) (ti:=ti) (te:=te) (Q:=Q) (n:=n) Pv h0 hz hi (λacc σ H w=>MU _) (λi acc σ H hlt w=>hlt) (λi x acc σ H H2 hlt w y=>by obtain⟨rfl,rfl⟩:=y;exact hs i acc σ H2 hlt w) he
end
structure cW(P:NC)(w:NF)(K:Nr)(mg:Nz)(base:Heap)(CX:kc)(k:Nat)(x:Str)(ps:ND)(sp:Sp):Prop where
 ex:∃(f:Addr) (fd:NA),aY P w K mg base CX k f fd ps sp/\mg x=some (.ref f)/\PySem.W.keepIn K (.ref f)=true/\bU K fd ps []
structure NB(mg:Nz):Prop where
 len:mg "len"=none
 range:mg "range"=none
 list:mg "list"=none
 tuple:mg "tuple"=none
 isinstance:mg "isinstance"=none
 int:mg "int"=none
 bool:mg "bool"=none
 str:mg "str"=none
 reversed:mg "reversed"=none
 all:mg "all"=none
 enumerate:mg "enumerate"=none
 zip:mg "zip"=none
 sorted:mg "sorted"=none
 set:mg "set"=none
 dict:mg "dict"=none
 min:mg "min"=none
 max:mg "max"=none
 sum:mg "sum"=none
 ValueError:mg "ValueError"=none
section
variable {X:Cx}{CX:kc}{k:Nat}{x:Str}{ps:ND}{sp:Sp}{E:XK}{p pos:Pos}{e:Expr}{es:NH}{t:TA}
theorem aF(C:cW X.prog X.w X.K X.mg X.base CX k x ps sp)(hr:dv k X.A)(hg:Gl X x)(hx:dB CX X E)(ha:PA X (e::es) t)(hdb:autoParam ((x==("__debug__":Str))=false) zz2._auto_1)
  (hst:autoParam (starEach (e::es) X.env=(false,eval e X.env)::starEach es X.env) zz0._auto_1) (hpl:autoParam ((backTo pos (starEach es X.env)).any (·.1)=false) zz0._auto_1):PE X (.Call (.Name x p) (e::es) [] pos) (pO sp [] E t):=by
 obtain⟨f,fd,F,a,b,c⟩:=C.ex;exact FF F hr hg a b c .nil hx ha hdb hst hpl
end
section
variable {X:Cx}{tg:Expr}
def E6(_ j:Int):Prop:=0<j/\j<18446744073709551616
theorem cg:br X (binaryOp .FloorDiv) (rI E6 λi j=>.int (i/j)):=Jh λi j _ _ _ _ _ hc q=>by
 have h1:(0:Int)<j:=hc.1;have h2:j<18446744073709551616:=hc.2;refine floordiv_int ⋯ (by rw[Int.fdiv_eq_ediv_of_nonneg i ⋯];exact q) (.inl (PyProof.noPylong_of_log2 ?_));have h64:j.natAbs.log2<64:=(Nat.log2_lt ⋯).mpr ⋯;omega
theorem mF:∀{ys:ND} {us:Nw},bq (ys.map V.str) us->StrsAre us ys
 | [],_,.nil=>.nil
 |y::ys,_,.cons r t=>by
  obtain⟨tk,rfl⟩:=r;exact .cons y tk (mF t)
def AK(K:Nr):V->List V->Hp->VK->Prop:=λx xs H Q=>∃z p ys,x=.str z/\xs=[.ref p]/\(aT K H p (ys.map V.str)\/aV K H p (ys.map V.str))/\(ys.map (·.length)).sum+ys.length*z.length<=16777216/\Q (.str (Txt.join z ys)) H
theorem FN:J9 X "str.join" (AK X.K):=by
 intro pins s σ H x xs v us Q I rx rv h;obtain⟨z,p,ys,rfl,rfl,hs,e,q⟩:=h;obtain⟨t,rfl⟩:=rx;obtain⟨u,rfl,g⟩:=rv.one;cases g;rcases hs with hs | hs
 ·obtain⟨c,r,b,_⟩:=I.list hs
  exact join_list b.isList (by simpa using mF r) e λa k=>⟨.str _,H,I.tok k,⟨a,rfl⟩,q⟩
 ·obtain⟨c,r,b,_⟩:=I.tuple hs
  exact join_tuple b (by simpa using mF r) e λa k=>⟨.str _,H,I.tok k,⟨a,rfl⟩,q⟩
def Iu(x:Str):It:=⟨λi _=>i<x.cps.size,λi H v H'=>H'=H/\∃c,x.cps[i]?=some c/\v=.str ⟨#[c]⟩,λi _=>x.cps.size<=i⟩
theorem Do{K:Nr}(x:Str)(t:Tok)(it:Addr):rP P w K tg (Iu x) [it] it (λi h=>h.IsStrIter it (strIterType x) x t i) where
 mem:=by simp
 obj:=λi h g b l=>by
  have e:b=it:=by simpa using l
  subst e;obtain⟨o,e,c,d⟩:=g;exact⟨o,e,λv z=>by rw[d]at z;cases z⟩
 keep:=λi h m g k=>by
  obtain⟨o,e,c,d⟩:=g;exact⟨o,k it (by simp) o e,c,d⟩
 item:=by
  intro X M G O L i j s σ H E I hf g hg;subst M G O;obtain⟨D,C,U,B,y,r⟩:=hf it (by simp);have J:i<x.cps.size:=hg;have q:x.cps[i]?=some x.cps[i]:=Array.getElem?_eq_getElem J;have n:∀m,m.IsStrIter it (strIterType x) x t (i+1)->Heap.SameBut it s.heap m->∃u,(some (Value.str ⟨#[x.cps[i]]⟩ s.toks))=some u /\
    wpAny (model X.prog X.w) X.A (letOwnedTupleGo tg (.ref it) u) (λ_ S=>∃v H',Inv X j σ H' S/\bv v u/\(Iu x).yld i H v H'/\S.heap.IsStrIter it (strIterType x) x t (i+1)/\∀b∈[it],H' b=none) E {s with heap:=m,toks:=s.toks+1}:=λm st' T=>by
   have Y:Inv X j σ H {s with heap:=m,toks:=s.toks+1}:=I.turned (λb o l e=>(T.2 b l).trans e) D C B y r;obtain⟨o,e,c,d⟩:=id st';refine⟨_,rfl,xl (s:={s with heap:=m,toks:=s.toks+1}) e c d ?_ ⟨.str ⟨#[x.cps[i]]⟩,H,Y,⟨_,rfl⟩,⟨rfl,_,q,rfl⟩,st',λb l=>(hf b l).1⟩⟩;unfold strIterType
   split<;>decide
  cases p:x.cps.all (· < 128) with
  |true=>
   have a:strIterType x="str_ascii_iterator":=by unfold strIterType;rw[p];rfl
   rw[a]at g n ⊢;exact wpAny_pyNext_ascii_item g q n
  |false=>
   have a:strIterType x="str_iterator":=by unfold strIterType;rw[p];rfl
   rw[a]at g n ⊢;exact wpAny_pyNext_wide_item g q n
 done:=by
  intro X M G O L i j s σ H E I hf g hg;subst M G O;obtain⟨D,C,U,B,y,r⟩:=hf it (by simp);have J:x.cps.size<=i:=hg;have q:x.cps[i]?=none:=Array.getElem?_eq_none J;cases p:x.cps.all (· < 128) with
  |true=>
   have a:strIterType x="str_ascii_iterator":=by unfold strIterType;rw[p];rfl
   rw[a]at g;exact wpAny_pyNext_ascii_end (I.ok.hd L) g q λm R=>⟨rfl,I.turned (t':=s.toks) (λb o l e=>R b o l e) D C B y r⟩
  |false=>
   have a:strIterType x="str_iterator":=by unfold strIterType;rw[p];rfl
   rw[a]at g;exact wpAny_pyNext_wide_end (I.ok.hd L) g q λm R=>⟨rfl,I.turned (t':=s.toks) (λb o l e=>R b o l e) D C B y r⟩
 self:=λA i s Q E g h=>by
  cases p:x.cps.all (· < 128) with
  |true=>
   have a:strIterType x="str_ascii_iterator":=by unfold strIterType;rw[p];rfl
   rw[a]at g;exact wpAny_pyIter_striter_ascii g h
  |false=>
   have a:strIterType x="str_iterator":=by unfold strIterType;rw[p];rfl
   rw[a]at g;exact wpAny_pyIter_striter_wide g h
def Hu(tl:TE):TI:=λσ H R=>tl σ H λv H1=>∃x,v=.str x/\R (Iu x) H1
theorem HA{tl:TE}(hl:PE X l tl):PI X tg l (Hu tl):=by
 intro a s σ H R I h;refine bZ (hl a s σ H _ I h) λv c ⟨x,n,g,j,k⟩=>?_;obtain⟨x,rfl,q⟩:=k;obtain⟨t,rfl⟩:=j;refine wpAny_pyIter_strU ?_;refine⟨c.heap.objs.size,[c.heap.objs.size],_,_,n,rfl,g.kept (t':=c.toks) λb o e=>Mx _ e,Do x t _,⟨_,MD _ rfl,rfl,rfl⟩,λb m=>?_,q⟩;have e:b=c.heap.objs.size:=by simpa using m
 subst e;exact g.fpOk (MU _) (g.hok.fresh (MU _))
def IF(K:Nr)(a:Addr)(n:Nat):It:=
 ⟨λi H=>∃xs x,aT K H a xs/\i<n/\xs[n-1-i]?=some x,λi H x H'=>H'=H/\∀xs,aT K H a xs->xs[n-1-i]?=some x,λi _=>i=n⟩
theorem Ec{K:Nr}(a it:Addr)(n:Nat):rP P w K tg (IF K a n) [it] it (λi h=>h.IsRevIter it a ((n:Int)-1-(i:Int))) where
 mem:=by simp
 obj:=λi h g b l=>by
  have e:b=it:=by simpa using l
  subst e;obtain⟨o,e,c,d⟩:=g;exact⟨o,e,λv z=>by rw[d]at z;cases z⟩
 keep:=λi h q g k=>g.at λo e=>k it (by simp) o e
 item:=by
  intro X y r B S i j s σ H E I hf g hg;subst y r B;obtain⟨xs,x,O,R,M⟩:=hg;obtain⟨its,U,p,hz⟩:=I.list O;obtain⟨u,hu,Y⟩:=U.get M;obtain⟨L,J,f2,G,D,C⟩:=hf it (by simp);have e:(n:Int)-1-(i:Int)=((n-1-i:Nat):Int):=by omega
  have m:=g;rw[e]at m;refine wpAny_pyNext_rev_item m p.isList (x:=u) (by simpa using hu) λq st' T=>?_;have e2:((n-1-i:Nat):Int)-1=(n:Int)-1-((i+1:Nat):Int):=by omega
  rw[e2]at st';have I1:Inv X j σ H {s with heap:=q }:=I.turned (t':=s.toks) (λb o l e=>(T.2 b l).trans e) L J G D C;obtain⟨o,e,c,d⟩:=id st';exact⟨u,rfl,xl (s:={s with heap:=q }) e c d nofun ⟨x,H,I1,Y,⟨rfl,λys Z=>by rw[I.list_inj Z O];exact M⟩,st',λb l=>(hf b l).1⟩⟩
 done:=by
  intro X y r B S i j s σ H E I hf g hg;subst y r B;obtain⟨L,J,f2,G,D,C⟩:=hf it (by simp);have R:i=n:=hg;subst R;have e:(i:Int)-1-(i:Int) = -1:=by omega
  rw[e]at g;exact wpAny_pyNext_rev_end (I.ok.hd S) g λq eb=>⟨rfl,I.turned (t':=s.toks) (λb o l e=>eb b o l e) L J G D C⟩
 self:=λ_ _ _ _ _ g h=>wpAny_pyIter_revIter g h
def Hq(K:Nr)(ta:TA):TI:=λσ H R=>ta σ H λvs H1=>∃a xs,vs=[.ref a]/\aT K H1 a xs/\R (IF K a xs.length) H1
theorem Ae{a:Expr}{ta:TA}{p pos:Pos}(hg:Gl X "reversed")(hm:X.mg "reversed"=none)(ha:PA X [a] ta)(hs:autoParam (starEach [a] X.env=[(false,eval a X.env)]) zz0._auto_1):PI X tg (.Call (.Name "reversed" p) [a] [] pos) (Hq X.K ta):=by
 intro g s σ H R I h;refine Call_ (fP I hg hm boot_reversed (PyProof.Rows.callWith_type1 (bZ (ha pos g s σ H _ I h) λus c ⟨vs,v,m,y,B⟩=>?_) hs rfl));obtain⟨l,j,rfl,D,q⟩:=B;obtain⟨u,rfl,x⟩:=y.one;cases x;obtain⟨n,w,C,hz⟩:=m.list D;have k:=w.length;refine call_reversed_list C.isList ?_;have J:n.toArray.size=j.length:=by rw[ME,k]
 rw[J];have L:Inv X g σ v {c with heap:=c.heap.push (revObj l ((j.length:Int)-1))}:=m.kept (t':=c.toks) λb o e=>Mx _ e;have r:(c.heap.push (revObj l ((j.length:Int)-1))).IsRevIter c.heap.objs.size l ((j.length:Int)-1-((0:Nat):Int)):=⟨_,MD _ rfl,rfl,by simp[revObj]⟩;refine wpAny_pyIter_revIter r ?_;refine⟨c.heap.objs.size,[c.heap.objs.size],_,_,v,rfl,L,Ec l _ j.length,r,λb G=>?_,q⟩;have e:b=c.heap.objs.size:=by simpa using G
 subst e;exact m.fpOk (MU _) (m.hok.fresh (MU _))
def HY:V->Option Int->Option Int->Hp->VK->Prop:=λx lo hi H Q=>∃z,x=.str z/\z.length<=sizeLine/\Q (.str (Txt.slice z lo hi)) H
theorem zd:IE X HY:=by
 intro b s σ H x v vl vu lo hi sl Q I rx hs pl pu h;obtain⟨z,rfl,c,q⟩:=h;obtain⟨t,rfl⟩:=rx;have a:∀e k,EP X b σ Q (.str (Txt.slice z lo hi) e) {s with toks:=k}:=λe k=>⟨.str _,H,I.tok k,⟨e,rfl⟩,q⟩;refine⟨"str",_,F.slot_str_getitem.lookup,typeIs_str _ _ _,?_⟩;cases pl with
 |none=>
  cases pu with
  |none=>exact wpAny_getItem_str_slice (l:=none) (u:=none) (st:=none) hs rfl (post_val_or_str ⟨M5 (Txt.slice_le z _ _) c,a⟩)
  |int j uj=>exact wpAny_getItem_str_slice (l:=none) (u:=some (j,uj)) (st:=none) hs rfl (post_val_or_str ⟨M5 (Txt.slice_le z _ _) c,a⟩)
 |int i ui=>
  cases pu with
  |none=>exact wpAny_getItem_str_slice (l:=some (i,ui)) (u:=none) (st:=none) hs rfl (post_val_or_str ⟨M5 (Txt.slice_le z _ _) c,a⟩)
  |int j uj=>exact wpAny_getItem_str_slice (l:=some (i,ui)) (u:=some (j,uj)) (st:=none) hs rfl (post_val_or_str ⟨M5 (Txt.slice_le z _ _) c,a⟩)
def JD(sep:Str)(ta:TA):TE:=λσ H Q=>ta σ H λvs H1=>∃x,vs=[.str x]/\x.length<=1000/\sep.length<=1000/\Q (.str (Txt.join sep (x.cps.toList.reverse.map λc=>(⟨#[c]⟩:Str)))) H1
theorem so{e:Expr}{ta:TA}{sep:Str}{j:Nat}{ap p1 p2 cpos:Pos}(hc:X.calm=true)(hg:Gl X "reversed")(hm:X.mg "reversed"=none)(ha:PA X [e] ta)
  (hfew:autoParam (((backTo cpos (starEach [.Call (.Name "reversed" p1) [e] [] p2] X.env)).all (λx=>!x.1)&&(backToKw cpos (keywordEach [] X.env)).all (λx=>x.1.isSome)
   && decide ([Expr.Call (.Name "reversed" p1) [e] [] p2].length+([]:List Keyword).length+(if([]:List Keyword).isEmpty then 0 else 1)<30))=true) zz0._auto_1)
  (hline:autoParam ((ap.endLine==cpos.line)=true) zz0._auto_1) (hs:autoParam (starEach [e] X.env=[(false,eval e X.env)]) zz0._auto_1) :
  PE X (.Call (.Attribute (.Constant (.str sep) j p0) "join" ap) [.Call (.Name "reversed" p1) [e] [] p2] [] cpos) (JD sep ta):=by
 intro c s σ H Q I h;refine wpAny_Call_method_late rfl hfew hline rfl (bZ (rf (X:=X) c s σ H (λv p=>v=.str sep/\p=H) I ⟨rfl,rfl⟩) λv r ⟨x,p,y,G,M⟩=>?_);obtain⟨rfl,rfl⟩:=M;obtain⟨t0,rfl⟩:=G;refine⟨"str",_,F.plainAttrs_str,F.slot_str_join,F.type_str_join,typeIs_str _ _ _,(λa z=>nomatch z),?_⟩;refine Calls.callWith_builtin rfl (Calls.evalArgs_plain ?_);show wpAny _ _ (spliced ((false,eval (.Call (.Name "reversed" p1) [e] [] p2) X.env)::[])) _ _ r;refine Calls.spliced_cons ?_;refine Call_ (fP y hg hm boot_reversed (PyProof.Rows.callWith_type1 (bZ (ha p2 c r σ p _ y h) λus g ⟨vs,n,m,D,J⟩=>?_) hs rfl));obtain⟨x,rfl,L,l,q⟩:=J;obtain⟨u,rfl,C⟩:=D.one;obtain⟨t,rfl⟩:=C;have hsl:sizeLine=16777216:=q0R;refine nQ ⋯ (Calls.spliced_nil ?_);have w:Inv X c σ n {g with heap:=g.heap.push (y8 x t ((x.length:Int)-1)),toks:=g.toks+1+1}:=m.kept λb o e=>Mx _ e;have R:=m.fpOk (b:=g.heap.objs.size) (H':=n) (MU _) (m.hok.fresh (MU _));obtain⟨Z,Y,f2,U,T,S⟩:=R;refine Di (w.ok.hd hc) (I:=g.heap.objs.size) (x:=x) (t:=t) ⟨_,MD _ rfl,rfl,rfl⟩ L l λB t' k keep eg ed eo=>?_;obtain⟨h',g',d',k',o'⟩:=B;cases eg;cases ed;cases eo;exact⟨.str _,n,w.turned (t':=k) (λb o O e=>keep b o O e) Z Y U T S,⟨t',rfl⟩,q⟩
def yZ:V->Value
 | .ty n=>.type n
 | .ref a=>.ref a
 |_=>.none
def mI:V->Bool
 | .ty _=>true
 | .ref _=>true
 |_=>false
theorem wM(r:bv c u)(h:mI c=true):u=yZ c:=by
 cases c with
 |ty n=>exact r
 |ref a=>exact r
 |_=>cases h
def Gj(K:Nr):List V->Hp->VK->Prop:=λxs H Q=>∃x c t b,xs=[x,c]/\mI c=true/\je K H x t/\PySem.W.kitOne K t (yZ c)=some b/\Q (.bl b) H
theorem b_:iy X (.builtin "isinstance") (Gj X.K):=by
 intro pins s σ H xs us Q I r h;obtain⟨x,c,t,b,rfl,k,ty,e,q⟩:=h;obtain⟨u,v,rfl,j,g⟩:=r.two;rw[wM g k];exact Db I j ty e λa=>⟨.bl b,H,I.tok a,rfl,q⟩
theorem nw(K:Nr)(n:String):PySem.W.kitOne K (.type n) (.type n)=some true:=by
 unfold PySem.W.kitOne;rw[q07 (beq_self_eq_true _)]
inductive Dt where
 |non | bl (b:Bool) | int (i:Int) | str (x:Str) | lst (ds:List Dt) | tup (ds:List Dt)
mutual
def ql(K:Nr)(H:Hp):Dt->V->Prop
 | .non,v=>v=.non
 | .bl b,v=>v=.bl b
 | .int i,v=>v=.int i
 | .str x,v=>v=.str x
 | .lst ds,v=>∃a xs,v=.ref a/\aT K H a xs/\iS K H ds xs
 | .tup ds,v=>∃a xs,v=.ref a/\aV K H a xs/\iS K H ds xs
def iS(K:Nr)(H:Hp):List Dt->List V->Prop
 | [],xs=>xs=[]
 |d::ds,xs=>∃x r,xs=x::r/\ql K H d x/\iS K H ds r
end
mutual
def Dt.dep:Dt->Nat
 | .lst ds=>Dt.deps ds+1
 | .tup ds=>Dt.deps ds+1
 |_=>0
def Dt.deps:List Dt->Nat
 | []=>0
 |d::ds=>max (Dt.dep d) (Dt.deps ds)
end
theorem iS.length{K:Nr}:∀{ds:List Dt} {xs:List V},iS K H ds xs->xs.length=ds.length
 | [],_,h=>by unfold iS at h;rw[h];rfl
 |d::ds,xs,h=>by
  unfold iS at h;obtain⟨x,r,rfl,_,h2⟩:=h;simp[iS.length h2]
theorem iS.get{K:Nr}:∀{ds:List Dt} {xs:List V} {j:Nat} {x:V},iS K H ds xs->xs[j]?=some x->∃d,ds[j]?=some d/\ql K H d x
 | [],_,_,_,h,e=>by unfold iS at h;rw[h]at e;simp at e
 |d::ds,xs,j,x,h,e=>by
  unfold iS at h;obtain⟨y,r,rfl,h1,h2⟩:=h;cases j with
  |zero=>simp at e;subst e;exact⟨d,rfl,h1⟩
  |succ j=>
   obtain⟨d',e1,e2⟩:=iS.get (j:=j) h2 (by simpa using e);exact⟨d',by simpa using e1,e2⟩
theorem kC:∀{ds:List Dt} {j:Nat} {d:Dt},ds[j]?=some d->d.dep<=Dt.deps ds
 | [],_,_,e=>by simp at e
 |d'::ds,0,d,e=>by simp at e;subst e;unfold Dt.deps;omega
 |d'::ds,j+1,d,e=>by
  have:=kC (ds:=ds) (j:=j) (by simpa using e);unfold Dt.deps;omega
theorem iZ(n:Nat):(List.range n).all (λ_=>true)=true:=by simp
theorem zA{pins:Nt}{σ:St}(I:Inv X pins σ H s):∀(n:Nat) (d:Dt) (A:NE) {v u:V} {vv uu:Value},d.dep<=n->A.units+n<cLine->ql X.K H d v->ql X.K H d u->bv v vv->bv u uu->SeqAt.EqAt A s vv uu true:=by
 intro n
 induction n with
 |zero=>
  intro d A v u vv uu T hA h1 h2 l k;cases d with
  |non=>unfold ql at h1 h2;subst h1 h2;have:=gR (A:=A) (s:=s) l k rfl rfl;exact this
  |bl b=>unfold ql at h1 h2;subst h1 h2;have:=gR (A:=A) (s:=s) l k rfl rfl;simpa[rE]using this
  |int i=>unfold ql at h1 h2;subst h1 h2;have:=gR (A:=A) (s:=s) l k rfl rfl;simpa[rE]using this
  |str x=>unfold ql at h1 h2;subst h1 h2;have:=gR (A:=A) (s:=s) l k rfl rfl;simpa[rE]using this
  |lst ds=>unfold Dt.dep at T;omega
  |tup ds=>unfold Dt.dep at T;omega
 |succ n ih=>
  intro d A v u vv uu T hA h1 h2 l k;cases d with
  |non=>unfold ql at h1 h2;subst h1 h2;have:=gR (A:=A) (s:=s) l k rfl rfl;exact this
  |bl b=>unfold ql at h1 h2;subst h1 h2;have:=gR (A:=A) (s:=s) l k rfl rfl;simpa[rE]using this
  |int i=>unfold ql at h1 h2;subst h1 h2;have:=gR (A:=A) (s:=s) l k rfl rfl;simpa[rE]using this
  |str x=>unfold ql at h1 h2;subst h1 h2;have:=gR (A:=A) (s:=s) l k rfl rfl;simpa[rE]using this
  |lst ds=>
   unfold ql at h1 h2;obtain⟨a,L,rfl,ha,o⟩:=h1;obtain⟨b,G,rfl,hb,m⟩:=h2;cases l;cases k
   by_cases p:a=b
   ·subst p;exact SeqAt.EqAt.same _
   ·unfold Dt.dep at T
    obtain⟨g,R,pa,_⟩:=I.list ha;obtain⟨c,O,pb,_⟩:=I.list hb;have l1:=R.length;have l2:=O.length;have l3:=o.length;have l4:=m.length
    have a0:g.toArray.size=c.toArray.size:=by simp;omega
    have q:=SeqAt.RcAt.lists (A:=A) (s:=s) (e:=λ_=>true) pa.isList pb.isList a0 ⋯ λj g1 g2=>by
     have D:j<g.length:=by simpa using g1
     have C:j<c.length:=by simpa using g2
     have M:L[j]?=some L[j]:=Mv ⋯;have J:G[j]?=some G[j]:=Mv ⋯;obtain⟨d,e1,B⟩:=o.get M;obtain⟨d',Z,y⟩:=m.get J;rw[e1]at Z;cases Z
     obtain⟨w1,Y,w⟩:=R.get M;obtain⟨w2,U,r⟩:=O.get J;rw[Mv D]at Y;rw[Mv C]at U;cases Y;cases U
     have S:=kC e1;simp only[Ni];exact ih d A.in1 ⋯ (by show A.units+1+n<cLine;omega) B y w r
    rw[iZ]at q;exact SeqAt.EqAt.of_refs p q
  |tup ds=>
   unfold ql at h1 h2;obtain⟨a,L,rfl,ha,o⟩:=h1;obtain⟨b,G,rfl,hb,m⟩:=h2;cases l;cases k
   by_cases p:a=b
   ·subst p;exact SeqAt.EqAt.same _
   ·unfold Dt.dep at T
    obtain⟨g,R,pa,_⟩:=I.tuple ha;obtain⟨c,O,pb,_⟩:=I.tuple hb;have l1:=R.length;have l2:=O.length;have l3:=o.length;have l4:=m.length
    have q:=SeqAt.RcAt.tuples (A:=A) (s:=s) (e:=λ_=>true) (show s.heap.IsTuple a g.toArray from pa) (show s.heap.IsTuple b c.toArray from pb) ⋯ λj g1 g2=>by
     have D:j<g.length:=by simpa using g1
     have C:j<c.length:=by simpa using g2
     have M:L[j]?=some L[j]:=Mv ⋯;have J:G[j]?=some G[j]:=Mv ⋯;obtain⟨d,e1,B⟩:=o.get M;obtain⟨d',Z,y⟩:=m.get J;rw[e1]at Z;cases Z
     obtain⟨w1,Y,w⟩:=R.get M;obtain⟨w2,U,r⟩:=O.get J;rw[Mv D]at Y;rw[Mv C]at U;cases Y;cases U
     have S:=kC e1;simp only[Ni];exact ih d A.in1 ⋯ (by show A.units+1+n<cLine;omega) B y w r
    have e0:((List.range (min g.toArray.size c.toArray.size)).all (λ_=>true)&&g.toArray.size==c.toArray.size)=true:=by
     rw[iZ,Bool.true_and];simp;omega
    rw[e0]at q;exact SeqAt.EqAt.of_refs p q
def Iy(K:Nr)(neg:Bool):R2:=λx y H Q=>
 (∃ds,Dt.deps ds<=40/\((ql K H (.lst ds) x/\ql K H (.lst ds) y)\/(ql K H (.tup ds) x/\ql K H (.tup ds) y))/\Q (.bl (!neg)) H) \/
 (∃a b xs ys,x=.ref a/\y=.ref b/\aT K H a xs/\aT K H b ys/\xs.length≠ys.length/\Q (.bl neg) H)
theorem E_(hu:X.A.units+64<cLine):br X (compareOp .NotEq) (Iy X.K true):=by
 intro r s σ H x y v u Q I rx ry h;rcases h with⟨ds,hd,h,q⟩ | ⟨a,b,p,o,rfl,rfl,D,C,hne,q⟩
 ·have G:EP X r σ Q (.bool false) s:=⟨.bl false,H,I,rfl,q⟩
  have item:∀{p o:List V} {g c:Nw},iS X.K H ds p->iS X.K H ds o->bq p g->bq o c->∀j (h1:j<g.toArray.size) (h2:j<c.toArray.size),SeqAt.EqAt X.A.in1 s g.toArray[j] c.toArray[j] true:=fun{p o g c} l k n m j g1 g2=>by
   have S:=n.length;have R:=m.length;have l3:=l.length;have l4:=k.length
   have U:j<g.length:=by simpa using g1
   have T:j<c.length:=by simpa using g2
   have Z:p[j]?=some p[j]:=Mv ⋯;have Y:o[j]?=some o[j]:=Mv ⋯;obtain⟨d,e1,O⟩:=l.get Z;obtain⟨d',e2,M⟩:=k.get Y;rw[e1]at e2;cases e2
   obtain⟨w1,f1,L⟩:=n.get Z;obtain⟨w2,f2,J⟩:=m.get Y;rw[Mv U]at f1;rw[Mv T]at f2;cases f1;cases f2
   have hdep:=kC e1;simp only[Ni];exact zA I 40 d X.A.in1 ⋯ (by show X.A.units+1+40<cLine;omega) O M L J
  rcases h with⟨h1,h2⟩ | ⟨h1,h2⟩
  ·unfold ql at h1 h2
   obtain⟨a,p,rfl,D,l⟩:=h1;obtain⟨b,o,rfl,C,k⟩:=h2;cases rx;cases ry
   obtain⟨g,n,B,_⟩:=I.list D;obtain⟨c,m,w,_⟩:=I.list C;have S:=n.length;have R:=m.length;have l3:=l.length;have l4:=k.length
   have q:=SeqAt.RcNeAt.lists (A:=X.A) (s:=s) (e:=λ_=>true) B.isList w.isList (by simp;omega) ⋯ (item l k n m);rw[iZ]at q;exact q _ _ _ _ G
  ·unfold ql at h1 h2
   obtain⟨a,p,rfl,D,l⟩:=h1;obtain⟨b,o,rfl,C,k⟩:=h2;cases rx;cases ry
   obtain⟨g,n,B,_⟩:=I.tuple D;obtain⟨c,m,w,_⟩:=I.tuple C;have S:=n.length;have R:=m.length;have l3:=l.length;have l4:=k.length
   have q:=SeqAt.RcNeAt.tuples (A:=X.A) (s:=s) (e:=λ_=>true) (show s.heap.IsTuple a g.toArray from B) (show s.heap.IsTuple b c.toArray from w) ⋯ (item l k n m);have e0:((List.range (min g.toArray.size c.toArray.size)).all (λ_=>true)&&g.toArray.size==c.toArray.size)=true:=by
    rw[iZ,Bool.true_and];simp;omega
   rw[e0]at q;exact q _ _ _ _ G
 ·cases rx;cases ry
  obtain⟨g,n,B,_⟩:=I.list D;obtain⟨c,m,w,_⟩:=I.list C;have S:=n.length;have R:=m.length
  exact SeqAt.RcNeAt.lists_lengths B.isList w.isList (by simp;omega) ⋯ _ _ _ _ ⟨.bl true,H,I,rfl,q⟩
end
end L2
namespace bH
abbrev JL:=List Nat
abbrev bH:=List JL
def fL(p:bH)(r c:Nat):Prop:=p.length=r/\∀x∈p,x.length=c
def mirror(p:bH):bH:=p.map List.reverse
def col(p:bH)(i:Nat):JL:=p.reverse.map λx=>x.getD i 0
def gC(p:bH):bH:=(List.range (p.headD []).length).map (col p)
def bG:Nat->bH->bH
 |0,p=>p
 |n+1,p=>bG n (gC p)
def turned(p:bH)(t:Nat):bH:=bG (t%4) (if 4<=t then mirror p else p)
theorem E7{i:Nat}(h:fL p r c)(hi:i<r):(p.getD i []).length=c:=by
 have a:i<p.length:=by rw[h.1];exact hi
 rw[q0A,Mv a];exact h.2 _ (MF a)
theorem bD(h:fL p r c)(hr:0<r):(p.headD []).length=c:=by
 have:=E7 h hr;cases p with
 |nil=>have:=h.1;simp at this;omega
 |cons x p=>simpa using this
theorem iu(h:fL p r c):fL (mirror p) r c:=by
 refine⟨by simp[mirror,h.1],λx b=>?_⟩;obtain⟨y,a,rfl⟩:=Nf.mp b;rw[MO];exact h.2 y a
theorem wL(h:fL p r c)(hr:0<r):fL (gC p) c r:=by
 refine⟨by unfold gC;rw[My,q0G,bD h hr],λx a=>?_⟩;obtain⟨i,_,rfl⟩:=Nf.mp a;simp[col,h.1]
theorem dr:∀(n:Nat) {p:bH} {r c:Nat},fL p r c->0<r->0<c->fL (bG n p) (if n%2=0 then r else c) (if n%2=0 then c else r)
 |0,_,_,_,h,_,_=>h
 |n+1,p,r,c,h,hr,hc=>by
  have:=dr n (wL h hr) hc hr;show fL (bG n (gC p)) _ _
  by_cases e:n%2=0
  ·rw[q07 e,q07 e]at this
   rw[q06 ⋯,q06 ⋯];exact this
  ·rw[q06 e,q06 e]at this
   rw[q07 ⋯,q07 ⋯];exact this
theorem wU(h:fL p r c)(hr:0<r)(hc:0<c)(t:Nat):fL (turned p t) (if t%2=0 then r else c) (if t%2=0 then c else r):=by
 unfold turned;have e:t%4%2=t%2:=by omega
 rw[<- e]
 split
 ·exact dr _ (iu h) hr hc
 ·exact dr _ h hr hc
theorem ni(a b:Nat)(p:bH):bG a (bG b p)=bG (b+a) p:=by
 induction b generalizing p with
 |zero=>rw[Nat.zero_add];rfl
 |succ b ih=>show bG a (bG b (gC p))=_;rw[ih,Nat.add_right_comm];rfl
def after(t u:Nat):Nat:=if u<4 then t/4*4+(t+u)%4 else(1-t/4)*4+(u+8-t)%4
def vH(t:Nat):Nat:=if t<4 then(4-t)%4 else t
end bH
namespace QL
open PySem L2 bH
def tx(r:Nu):Str:=⟨r.toArray⟩
def aJ(p:bH):List V:=p.map λr=>V.str (tx r)
theorem ay(r:Nu):(tx r).length=r.length:=by show r.toArray.size=r.length;simp
theorem io(r:Nu):(tx r).cps.toList=r:=by show r.toArray.toList=r;simp
theorem aw(p:bH):(aJ p).length=p.length:=by unfold aJ;simp
theorem bi{p:bH}{i:Nat}(h:i<p.length):(aJ p)[i]?=some (V.str (tx p[i])):=by unfold aJ;rw[MA,Mv h];rfl
theorem fD(p:bH)(r:Nu):aJ (p++[r])=aJ p++[V.str (tx r)]:=by unfold aJ;simp
theorem D6:∀(ys:List (List Nat)),Txt.join (Str.ofString "") (ys.map tx)=tx ys.flatten
 | []=>rfl
 |y::ys=>by
  have key:∀(zs:List (List Nat)) (a:Nu),(zs.map tx).foldl (λacc (p:Str)=>acc++(Str.ofString "").cps++p.cps) a.toArray=(a++zs.flatten).toArray:=by
   intro zs
   induction zs with
   |nil=>intro a;simp
   |cons z zs ih=>
    intro a;rw[M4,List.foldl_cons];have e:a.toArray++(Str.ofString "").cps++(tx z).cps=(a++z).toArray:=by
     have b:(Str.ofString "").cps=#[]:=rfl;rw[b];show a.toArray ++ #[]++z.toArray=_;simp
    rw[e,ih];simp
  show(⟨(ys.map tx).foldl (λacc (p:Str)=>acc++(Str.ofString "").cps++p.cps) (tx y).cps⟩:Str)=_;show(⟨(ys.map tx).foldl (λacc (p:Str)=>acc++(Str.ofString "").cps++p.cps) y.toArray⟩:Str)=_;rw[key]
  rfl
theorem gF(r:Nu):Txt.join (Str.ofString "") (r.map λc=>(⟨#[c]⟩:Str))=tx r:=by
 have e:(r.map λc=>(⟨#[c]⟩:Str))=(r.map λc=>[c]).map tx:=by rw[ML];rfl
 rw[e,D6]
 congr 1
 clear e
 induction r with
 |nil=>rfl
 |cons c r ih=>simp[ih]
def ug(p:bH):Prop:=p.length<=64/\∀r∈p,r.length<=64
theorem ug.of(h:fL p r c)(hr:r<=64)(hc:c<=64):ug p:=⟨by rw[h.1];exact hr,λx hx=>by rw[h.2 x hx];exact hc⟩
theorem bf{n:Nat}(h:n<=1000000):n<sizeLine:=by have:=q0R;omega
theorem ao{n:Nat}(h:n<=1000000):n<=sizeLine:=by have:=q0R;omega
theorem ae{H:Hp}(h:H l=none):aE H (aC H l o):=λb u e=>by rw[aq (aK e h)];exact e
theorem dP(s:aE H0 H)(h:H0 l=none):aE H0 (aC H l o):=λb u e=>by rw[aq (aK e h)];exact s b u e
theorem dZ{i:Nat}(h:fL p r c)(hi:i<r):∃hl:i<p.length,(p[i]).length=c:=⟨by rw[h.1];exact hi,h.2 _ (MF _)⟩
def cS(H:Hp)(p:bH)(Q:VK):Prop:=∀(l:Addr) (H':Hp),H l=none->H' l=some (.lst (aJ p))->aE H H'->Q (.ref l) H'
theorem zq{α:Type}{xs:List α}{i:Int}(h0:0<=i)(h1:i<xs.length):∃v,v∈xs/\dY xs i=some v:=by
 have hb:i.toNat<xs.length:=by omega
 obtain⟨j,a⟩:∃j:Nat,i=(j:Int):=⟨i.toNat,⋯⟩;subst a;exact⟨xs[j]'⋯,MF _,aM (Mv ⋯)⟩
theorem u9(K:Nr):PySem.W.kitOne K (.type "int") (.type "bool")=some false:=by kernel_rfl
end QL
namespace L2
open PySem PySem.Spec PyProof.Rows
section
variable {X:Cx}
theorem aX:iy X (.builtin "len") (λxs H Q=>∃p ys,xs=[.ref p]/\aT X.K H p ys/\Q (.int ys.length) H):=λpins s σ H xs us Q I r ⟨p,ys,e,h,q⟩=>nR pins s σ H xs us Q I r ⟨p,ys,e,.inl h,q⟩
theorem ph:iy X (.builtin "len") (λxs H Q=>∃p ys,xs=[.ref p]/\aV X.K H p ys/\Q (.int ys.length) H):=λpins s σ H xs us Q I r ⟨p,ys,e,h,q⟩=>nR pins s σ H xs us Q I r ⟨p,ys,e,.inr h,q⟩
theorem xO{K:Nr}{g:TG}{ti:TT}{te:TE}{σ:St}{H:Hp}{Q:List V->Hp->Prop}{xs:List V}(Pv:Nat->List V->St->Hp->Prop)(h0:Pv 0 [] σ H)(hz:∀i acc σ H,Pv i acc σ H->acc.length<sizeLine)(hi:∀i acc σ H,Pv i acc σ H->i<=xs.length)
  (hl:∀i acc σ H,Pv i acc σ H->aT K H a xs)
  (hs:∀i x acc σ H,xs.reverse[i]?=some x->Pv i acc σ H->g x σ H λσ2 H3=>ti σ2 H3 λb H4=>if b=true then te σ2 H4 λv H5=>Pv (i+1) (acc++[v]) σ2 H5 else Pv (i+1) acc σ2 H4)
  (he:∀acc σ H,Pv xs.length acc σ H->Q acc H):i4 (IF K a xs.length) g ti te σ H Q:=by
 have c:∀{i:Nat} {x:V},i<xs.length->xs[xs.length-1-i]?=some x->xs.reverse[i]?=some x:=fun{i x} hi e=>by rw[List.getElem?_reverse hi];exact e
 exact jI (J:=IF K a xs.length) (g:=g) (ti:=ti) (te:=te) (Q:=Q) (n:=xs.length) Pv h0 hz hi (λacc σ H w=>rfl)
  (λi acc σ H hlt w=>⟨xs,xs[xs.length-1-i]'⋯,hl _ _ _ _ w,hlt,Mv ⋯⟩) (λi x acc σ H H2 hlt w y=>by obtain⟨rfl,j⟩:=y;exact hs i x acc σ H2 (c hlt (j xs (hl _ _ _ _ w))) w) he
theorem F5(i j:Int):(Gn (.int i) (.int j)=true)=True:=eq_true rfl
theorem gi{ta:TE}(ha:PE X a ta)(he:∀whole,isTrue a X.env whole=(do let v <- whole;standAt a.pos;holding [v] (truthy v))):PT X a (wS ta):=by
 intro b s σ H Q I h;rw[he];refine q04 (bZ (ha b s σ H _ I h) λv s1 ⟨x,j,g,c,k,e,q⟩=>?_);subst e;cases c;exact q04 (wpAny_standAt (q0T (wpAny_truthy_bool ⟨j,g,q⟩)))
def vJ(J:It)(g:TG)(tb:TS)(D:iT)(σ:St)(H:Hp):Prop:=∃W:Nat->Nat->St->Hp->Prop,(∃m,W 0 m σ H)/\∀i m σ H,W i m σ H ->
 (J.stop i H/\D.nx σ H)\/(J.go i H/\∃N:St->Hp->Prop,(∀σ' H',N σ' H'->∃m',m'<m/\W (i+1) m' σ' H')/\∀x H',J.yld i H x H'->g x σ H' λσ2 H2=>tb {D with nx:=N,ct:=N,bk:=D.nx} σ2 H2)
def DJ(wi:TI)(g:TG)(tb:TS):TS:=λD σ H=>wi σ H λJ H1=>vJ J g tb D σ H1
theorem bL{tg iter:Expr}{body:List Stmt}{wi:TI}{pos:Pos}(hp:PassesOwn (model X.prog X.w) X.A X.env X.xe)(hc:X.calm=true)(hi:PI X tg iter wi)(hg:PG X tg g)(hb:yf X body tb)
  (hs:autoParam (∀x,foldedSetIterable iter X.env x=pure x) zz4._auto_1):PS X (.For tg iter body [] pos) (DJ wi g tb):=HF hp hc hi hg hb hs
section
variable {K:Nr}{g:TG}{tb:TS}{D:iT}{σ:St}{H:Hp}
theorem dh{xs:List V}(Pv:Nat->St->Hp->Prop)(h0:Pv 0 σ H)(hl:∀i σ H,i<=xs.length->Pv i σ H->aT K H a xs)
  (hs:∀i x σ H,xs[i]?=some x->Pv i σ H->g x σ H λσ2 H2=>tb {D with nx:=Pv (i+1),ct:=Pv (i+1),bk:=D.nx} σ2 H2) (hd:∀σ H,Pv xs.length σ H->D.nx σ H):vJ (Fx K a) g tb D σ H:=ED Pv h0 hl hs hd
theorem xZ{xs:List V}(Pv:Nat->St->Hp->Prop)(h0:Pv 0 σ H)(hl:∀i σ H,i<=xs.length->Pv i σ H->aV K H a xs)
  (hs:∀i x σ H,xs[i]?=some x->Pv i σ H->g x σ H λσ2 H2=>tb {D with nx:=Pv (i+1),ct:=Pv (i+1),bk:=D.nx} σ2 H2) (hd:∀σ H,Pv xs.length σ H->D.nx σ H):vJ (GX K a) g tb D σ H:=FG Pv h0 hl hs hd
theorem hJ{lo:Int}{n:Nat}(Pv:Nat->St->Hp->Prop)(h0:Pv 0 σ H)
  (hs:∀i σ H,i<n->Pv i σ H->g (.int (lo+i)) σ H λσ2 H2=>tb {D with nx:=Pv (i+1),ct:=Pv (i+1),bk:=D.nx} σ2 H2) (hd:∀σ H,Pv n σ H->D.nx σ H):vJ (Dd lo n) g tb D σ H:=C8 Pv h0 hs hd
end
end
theorem aW:bootBuiltins "len"=some (.builtin "len"):=by decide +kernel
theorem gE:bootBuiltins "list"=some (.type "list"):=by decide +kernel
theorem xi:bootBuiltins "tuple"=some (.type "tuple"):=by decide +kernel
theorem Hc:bootBuiltins "int"=some (.type "int"):=by decide +kernel
theorem FP:bootBuiltins "bool"=some (.type "bool"):=by decide +kernel
theorem cu:bootBuiltins "isinstance"=some (.builtin "isinstance"):=by decide +kernel
theorem Dv:bootBuiltins "all"=some (.builtin "all"):=by decide +kernel
end L2
namespace L2
open PySem PySem.Spec PyProof.Rows
section
variable {X:Cx}{a b c d:Expr}{ta tb tc td:TE}{pos:Pos}
def Hh(K:Nr):List V->Hp->VK->Prop:=λxs H Q=>∃(p:Addr) (bs:List Bool),xs=[.ref p]/\aT K H p (bs.map V.bl)/\Q (.bl (bs.all id)) H
theorem AI:∀{bs:List Bool} {us:Nw} {i:Nat} {u:Value},bq (bs.map V.bl) us->us[i]?=some u->∃k,bs[i]?=some k/\u=.bool k
 | [],_,_,_,.nil,e=>by simp at e
 |k::bs,_,0,u,.cons r _,e=>by simp at e;subst e;exact⟨k,rfl,r⟩
 |k::bs,_,i+1,u,.cons _ t,e=>by
  obtain⟨k',h1,h2⟩:=AI (i:=i) t (by simpa using e);exact⟨k',by simpa using h1,h2⟩
theorem Da(bs:List Bool):((List.range bs.length).all λi=>(bs[i]?).getD true)=bs.all id:=by
 rw[Bool.eq_iff_iff,Ng,Ng]
 constructor
 ·intro h x c
  obtain⟨i,b,e⟩:=List.getElem_of_mem c;have q:=h i (List.mem_range.mpr b);rw[Mv b,q0I,e]at q;exact q
 ·intro h i b
  have a:=List.mem_range.mp b;rw[Mv a,q0I];exact h _ (MF a)
theorem xH(hc:X.calm=true):iy X (.builtin "all") (Hh X.K):=by
 intro pins s σ H xs us Q I r h;obtain⟨p,bs,rfl,y,q⟩:=h;obtain⟨u,rfl,x⟩:=r.one;cases x;obtain⟨a,n,g,_⟩:=I.list y;have j:p<s.heap.objs.size:=by obtain⟨_,e,_⟩:=g.isList;exact MX e
 have c:a.length=bs.length:=by rw[<- n.length,My]
 refine call_all_walk (wpAny_pyIter_list g.isList ?_);refine⟨s.heap.objs.size,[s.heap.objs.size,p],[s.heap.objs.size],a.toArray.size,_,_,λi=>(bs[i]?).getD true,rfl,Walks.list (A:=X.A.in1) (I.ok.hd hc) _ p (MQ j) a.toArray,
  ⟨⟨_,MD _ rfl,rfl,rfl⟩,g.isList.push _⟩,λi v s' Q' E' D l=>?_,λh' w C=>?_⟩
 ·obtain⟨k,e,rfl⟩:=AI (i:=i) n (by simpa using D)
  dsimp only at l;rw[e,q0I]at l;exact wpAny_truthy_bool l
 ·have e:((List.range a.toArray.size).all λi=>(bs[i]?).getD true)=bs.all id:=by rw[ME,c];exact Da bs
  rw[e];exact⟨.bl _,H,I.kept (t':=w) λb o m=>C b o (λB=>by rw[Mz.mp B]at m;exact M6 _ (MX m)) (Mx _ m),rfl,q⟩
end
section
variable {K:Nr}{g:TG}{ti:TT}{te:TE}{σ:St}{H:Hp}{Q:List V->Hp->Prop}
theorem xL{xs:List V}(Pv:Nat->List V->St->Hp->Prop)(h0:Pv 0 [] σ H)(hz:∀i acc σ H,Pv i acc σ H->acc.length<sizeLine)(hi:∀i acc σ H,Pv i acc σ H->i<=xs.length)
  (hl:∀i acc σ H,Pv i acc σ H->aV K H a xs)
  (hs:∀i x acc σ H,xs[i]?=some x->Pv i acc σ H->g x σ H λσ2 H3=>ti σ2 H3 λb H4=>if b=true then te σ2 H4 λv H5=>Pv (i+1) (acc++[v]) σ2 H5 else Pv (i+1) acc σ2 H4)
  (he:∀acc σ H,Pv xs.length acc σ H->Q acc H):i4 (GX K a) g ti te σ H Q:=by
 exact jI (J:=GX K a) (g:=g) (ti:=ti) (te:=te) (Q:=Q) (n:=xs.length) Pv h0 hz hi (λacc σ H w=>⟨xs,hl _ _ _ _ w,MU _⟩)
  (λi acc σ H hlt w=>⟨xs,xs[i],hl _ _ _ _ w,Mv hlt⟩) (λi x acc σ H H2 hlt w y=>by obtain⟨rfl,c⟩:=y;exact hs i x acc σ H2 (c xs (hl _ _ _ _ w)) w) he
end
end L2
namespace QL
open PySem L2 bH PySem.Builtin PySem.Builtin.Str
theorem yP(row:Nu)(i k:Nat)(h:i+k<=row.length):((List.range k).map λm=>i+m).filterMap (λj=>row[j]?)=(row.drop i).take k:=by
 rw[List.filterMap_map]
 induction k with
 |zero=>simp
 |succ k ih=>
  rw[q0J,List.filterMap_append,ih ⋯,q0D,List.getElem?_drop];have e:i+k<row.length:=by omega
  simp[Mv e]
def xR(n:Nat):List Bool:=List.replicate n true
theorem BW(n:Nat):(xR n).all id=true:=by unfold xR;simp
def E9(n:Nat)(d:Int):Option Int->Int
 |none=>d
 |some i=>max 0 (min (if i<0 then i+(n:Int) else i) (n:Int))
theorem xk(n d:Nat)(v:Option Int):E9 n (d:Int) v=((HT.sIx n d v:Nat):Int):=by
 cases v with
 |none=>rfl
 |some v=>
  show max 0 (min (if v<0 then v+(n:Int) else v) (n:Int))=(((if v<0 then(v+(n:Int)).toNat else min v.toNat n:Nat)):Int)
  by_cases a:v<0
  ·rw[q07 a,q07 a,Int.max_def,Int.min_def]
   split<;>split at * <;> omega
  ·rw[q06 a,q06 a,Int.max_def,Int.min_def]
   split<;>split at * <;> omega
theorem zY(lo hi:Option Int)(n:Nat):strSliceIndices lo hi 1 n=sliceRange (E9 n ((0:Nat):Int) lo) (E9 n (n:Int) hi) 1:=by cases lo<;>cases hi<;>rfl
theorem uD(row:Nu)(lo hi:Option Int):Txt.slice (tx row) lo hi=tx ((row.drop (HT.sIx row.length 0 lo)).take (HT.sIx row.length row.length hi-HT.sIx row.length 0 lo)):=by
 have hl:=HT.sIx_le row.length 0 (MV _) lo;have hh:=HT.sIx_le row.length row.length (MU _) hi;have key:strSliceIndices lo hi 1 (tx row).length=(List.range (HT.sIx row.length row.length hi-HT.sIx row.length 0 lo)).map λm=>HT.sIx row.length 0 lo+m:=by
  rw[ay,zY,xk,xk];generalize HT.sIx row.length 0 lo=a;generalize HT.sIx row.length row.length hi=b;unfold sliceRange;have en:(if(1:Int)>0 then(if(a:Int)<(b:Int) then((b:Int)-(a:Int)+1-1)/1 else 0) else(if(a:Int)>(b:Int) then((a:Int)-(b:Int)-1-1)/(-1) else 0)).toNat=b-a:=by
   rw[q07 nofun]
   split<;>omega
  show(List.range (if(1:Int)>0 then(if(a:Int)<(b:Int) then((b:Int)-(a:Int)+1-1)/1 else 0) else(if(a:Int)>(b:Int) then((a:Int)-(b:Int)-1-1)/(-1) else 0)).toNat).map (fun(k:Nat)=>((a:Int)+1*(k:Int)).toNat)=_;rw[en];refine q0H λm _=>?_;omega
 unfold Txt.slice;rw[key];generalize HT.sIx row.length 0 lo=a at hl ⊢;generalize HT.sIx row.length row.length hi=b at hh ⊢
 by_cases hab:a+(b-a)<=row.length
 ·have e:(((List.range (b-a)).map λm=>a+m).filterMap λj=>(tx row).cps[j]?)=(row.drop a).take (b-a):=by
   rw[<- yP row a (b-a) hab]
   congr 1
   funext j
   show row.toArray[j]?=row[j]?;simp
  rw[e]
  split
  ·rename_i hw
   simp at hw;rw[ay]at hw;have ha0:a=0:=by omega
   have hb0:b-a=row.length:=by omega
   rw[ha0,Np];rw[ha0]at hb0;rw[hb0,M']
  ·rfl
 ·exact q0N hab ⋯
end QL
namespace L2
open PySem PySem.Spec PyProof.Rows
section
variable {X:Cx}{K:Nr}{tg:Expr}
theorem nP(hK:X.K=K):GM X (BY K):=hK▸vo
theorem wv(hK:X.K=K):GM X (BD K):=hK▸EN
end
end L2
namespace PySem
open Sem (wp)
def TrD(cp:Value->Prop)(h base:Heap)(e:Addr)(cls:Value)(od:NG)(fl:Value):Prop:=
 ∃oe vs T oT ts,h.get? e=some oe/\oe.cls=cls/\oe.dict=od/\oe.data=.fields vs/\vs[1]?=some (.ref T)/\base.get? T=none/\T≠e/\h.get? T=some oT/\oT.data=.fields ts/\ts[3]?=some fl/\∃cx,vs[2]?=some cx/\cp cx
structure jS(cp:Value->Prop)(base:Heap)(l:List Env)(e:Addr)(cls:Value)(od:NG)(fl:Value)(h:Heap):Prop where
 st:base.StaysIn h
 new:base.get? e=none
 ff:h.FunFrames base l
 tr:TrD cp h base e cls od fl
theorem jS.there{cp:Value->Prop}{base:Heap}{cls fl:Value}{od:NG}(x:jS cp base l e cls od fl h):∃oe vs,h.get? e=some oe/\oe.cls=cls/\oe.dict=od/\oe.data=.fields vs:=by
 obtain⟨oe,vs,_,_,_,a,b,c,d,_⟩:=x.tr;exact⟨oe,vs,a,b,c,d⟩
theorem qN(o:Obj)(f:Array Value->Array Value):(Obj.mapFields f o).dict=o.dict:=by unfold Obj.mapFields;split<;>rfl
section
variable {cp:Value->Prop}{M:Model}{A:NE}{E:Nq}{s:Nv}{base:Heap}{env:Env}{outer:List Env}{L e:Addr}{Q:Unit->Shared->Prop}
theorem qt{cls fl:Value}{od:NG}(x:jS cp base l e cls od fl s.heap)(h:∀h',jS cp base l e cls od .none h'->s.heap.UpToSlots h'->Q () {s with heap:=h' }):wpAny M A (setFlight (.ref e) none) Q E s:=by
 obtain⟨B,vs,T,oT,v,w,D,C,y,h1,n,p,u,j,G,r⟩:=x.tr;have m:3<v.size:=(Array.getElem?_eq_some_iff.mp G).1;have g:∀b,b≠T->(s.heap.update T (Obj.mapFields (·.setIfInBounds 3 Value.none))).get? b=s.heap.get? b:=λb a=>MC _ _ (Ne.symm a);have k:∀b o,s.heap.get? b=some o->(∀vs,o.data≠.fields vs)->b≠T:=λb o a c q=>by rw[q,u]at a;injection a with a;subst a;exact c v j
 unfold setFlight;refine q04 (wpAny_field w y h1 ?_);rw[q07 (show(Value.ref T != Value.none)=true from by simp)];refine wpAny_setField u j m (h _ ⟨λb o a=>(g b λq=>by rw[q,n]at a;cases a).trans (x.st b o a),x.new,x.ff.of_keeps λb o a c=>⟨o,(g b (k b o a c)).trans a,rfl⟩,?_⟩ λb o a c=>⟨o.slots,(g b (k b o a c)).trans a⟩);exact⟨B,vs,T,_,_,(g e (Ne.symm p)).trans w,D,C,y,h1,n,p,MH _ u (Obj.isFreed_of_fields (Obj.data_mapFields j _)),Obj.data_mapFields j _,by simp[m],r⟩
theorem Fd{oe:Obj}{head:Value}{hadNext:Bool}(hfr:A.frames=some (env::outer))(hl:s.heap.FunFrames base (env::outer))(hf:env.frame=some L)
  (he:s.heap.get? e=some oe) (hkb:base.StaysIn s.heap) (hen:base.get? e=none) (hd:oe.data=.fields vs) (hsz:1<vs.size) (hcx:∃cx,vs[2]?=some cx/\cp cx)
  (h:∀h',jS cp base (env::outer) e oe.cls oe.dict (rawInt L) h'->s.heap.UpToSlots h'->Q () {s with heap:=h' }) :
  wpAny M A (do let a <- frameOf env;let pl <- entryPlaceOf L hadNext;let b <- EntryCells.newEntry head a .none (rawInt L) .none pl;setField (.ref e) 1 b) Q E s:=by
 have u:e∉(env::outer).filterMap (·.frame):=λC=>by
  obtain⟨_,o,y,g⟩:=hl.mem C;rw[he]at y;injection y with y;subst y;exact g vs hd
 refine q04 (wpAny_frameOf_fun hfr hl hf λj k=>?_);refine q04 (wpAny_entryPlaceOf λpl n=>?_);unfold EntryCells.newEntry newFields;refine q04 (wpAny_newObj_type ?_ (n.sizeOk5 _ _ _ _ _));have r:j.get? e=some oe:=(k.2.1 e u).trans he;have m:base.StaysIn j:=λb o c=>(k.2.1 b λC=>by rw[(hl.mem C).1]at c;cases c).trans (hkb b o c);generalize x:({cls:=.type "traceback",dict:=none,data:=.fields ([head,.ref L,.none,rawInt L,.none]++(if pl.isEmpty then List.replicate 6 Value.none else pl)).toArray}:Obj)=To;have G:To.data=.fields ([head,.ref L,.none,rawInt L,.none]++(if pl.isEmpty then List.replicate 6 Value.none else pl)).toArray:=by rw[<- x]
 have p:=Mx (h:=j) To r;have w:j.objs.size≠e:=Nat.ne_of_gt (MX r);have keep:∀b o,b≠e->j.get? b=some o->((j.push To).update e (Obj.mapFields (·.setIfInBounds 1 (Value.ref j.objs.size)))).get? b=some o:=λb o D c=>by
  rw[MC _ _ (Ne.symm D)];exact Mx _ c
 have l:∀b o,s.heap.get? b=some o->(∀vs,o.data≠.fields vs)->b≠e:=λb o c g q=>by
  rw[q,he]at c
  injection c with c
  subst c;exact g vs hd
 refine wpAny_setField p hd hsz (h _ ?_ ?_)
 ·have v:=Obj.data_mapFields hd (·.setIfInBounds 1 (Value.ref j.objs.size))
  refine⟨λb o c=>keep b o (λq=>by rw[q,hen]at c;cases c) (m b o c),hen,hl.of_keeps λb o c g=>?_,?_⟩
  ·obtain⟨I,B⟩:=k.2.2 b o c
   exact⟨_,keep b _ (l b o c g) B,rfl⟩
  ·refine⟨_,_,j.objs.size,To,_,MH _ p (Obj.isFreed_of_fields v),Obj.cls_mapFields _ _,qN _ _,v,by simp[hsz],m.fresh,w,?_,G,?_,?_⟩
   ·rw[MC _ _ (Ne.symm w)]
    refine MD _ ?_;rw[<- x];rfl
   ·first | (simp;done) | (rcases n with rfl | ⟨_,_,_,_,_,_,_,rfl⟩<;>simp)
   ·obtain⟨cx,h2,J⟩:=hcx
    exact⟨cx,by rw[Array.getElem?_setIfInBounds_ne nofun];exact h2,J⟩
 ·intro b o c g
  obtain⟨I,B⟩:=k.2.2 b o c;exact⟨I,keep b _ (l b o c g) B⟩
theorem GR{cls:Value}{od:NG}(hfr:A.frames=some (env::outer))(hf:env.frame=some L)(x:jS cp base (env::outer) e cls od .none s.heap)
  (h:∀h',jS cp base (env::outer) e cls od (rawInt L) h'->s.heap.UpToSlots h'->Q () {s with heap:=h' }):wpAny M A (noteFrame (.ref e) env) Q E s:=by
 obtain⟨oe,vs,T,oT,w,r,C,B,u,h1,l,n,p,k,v,m⟩:=x.tr;subst C B;unfold noteFrame;simp only[hf];refine q04 (wpAny_field r u h1 ?_);rw[q07 (show(Value.ref T != Value.none)=true from by simp)];refine q04 (wpAny_field p k v ?_);rw[q06 (show ¬ ((Value.none==rawInt L)=true) from by simp[rawInt])];refine q04 (wpAny_setField p k (Array.getElem?_eq_some_iff.mp v).1 ?_);have g:∀b,b≠T->(s.heap.update T (Obj.mapFields (·.setIfInBounds 3 Value.none))).get? b=s.heap.get? b:=λb a=>MC _ _ (Ne.symm a);have j:∀b o,s.heap.get? b=some o->(∀vs,o.data≠.fields vs)->b≠T:=λb o a c q=>by rw[q,p]at a;injection a with a;subst a;exact c w k
 refine Fd hfr (x.ff.of_keeps λb o a c=>⟨o,(g b (j b o a c)).trans a,rfl⟩) hf ((g e (Ne.symm n)).trans r) (λb o a=>(g b λq=>by rw[q,l]at a;cases a).trans (x.st b o a)) x.new u (Array.getElem?_eq_some_iff.mp h1).1 m λh' y up=>h h' y λb o a c=>up b o ((g b (j b o a c)).trans a) c
theorem He{oe:Obj}(hfr:A.frames=some (env::outer))(hl:s.heap.FunFrames base (env::outer))(hf:env.frame=some L)(he:s.heap.get? e=some oe)(hkb:base.StaysIn s.heap)(hen:base.get? e=none)(hd:oe.data=.fields vs)(h1:vs[1]?=some .none)(hcx:∃cx,vs[2]?=some cx/\cp cx)
  (h:∀h',jS cp base (env::outer) e oe.cls oe.dict (rawInt L) h'->s.heap.UpToSlots h'->Q () {s with heap:=h' }):wpAny M A (noteFrame (.ref e) env) Q E s:=by
 unfold noteFrame;simp only[hf];refine q04 (wpAny_field he hd h1 ?_);rw[q06 nofun];exact Fd hfr hl hf he hkb hen hd (Array.getElem?_eq_some_iff.mp h1).1 hcx h
theorem jS.drop{cls fl:Value}{od:NG}(x:jS cp base (env::outer) e cls od fl h):jS cp base outer e cls od fl h:=⟨x.st,x.new,x.ff.2.2,x.tr⟩
theorem HX{cls:Value}{od:NG}(hfr:A.frames=some (env::outer))(hf:env.frame=some L)(x:jS cp base (env::outer) e cls od .none s.heap)
  (h:∀h',jS cp base outer e cls od .none h'->s.heap.UpToSlots h'->Q () {s with heap:=h' }):wpAny M A (leaving env (.ref e)) Q E s:=by
 unfold leaving;exact q04 (GR hfr hf x λh1 b g=>qt b λh2 a c=>h h2 a.drop (g.trans c))
theorem AG{oe:Obj}(hfr:A.frames=some (env::outer))(hl:s.heap.FunFrames base (env::outer))(hf:env.frame=some L)(he:s.heap.get? e=some oe)(hkb:base.StaysIn s.heap)(hen:base.get? e=none)(hd:oe.data=.fields vs)(h1:vs[1]?=some .none)(hcx:∃cx,vs[2]?=some cx/\cp cx)
  (h:∀h',jS cp base outer e oe.cls oe.dict .none h'->s.heap.UpToSlots h'->Q () {s with heap:=h' }):wpAny M A (leaving env (.ref e)) Q E s:=by
 unfold leaving;exact q04 (He hfr hl hf he hkb hen hd h1 hcx λh1 b g=>qt b λh2 a c=>h h2 a.drop (g.trans c))
end
end PySem
namespace L2
open PySem PySem.Spec PyProof.Rows
structure Fly0(P:NC)(w:NF)(outer:List Env)(H:Hp)(s:Nv)(B:Heap)(H':Hp)(s':Nv):Prop where
 st:B.StaysIn s'.heap
 ff:s'.heap.FunFrames B outer
 un:Un (l5 outer) [] H H' s.heap s'.heap
 hok:ly P w H' s'.heap
 cov:∀b o,H' b=some o->∃ob,B.get? b=some ob
 old:∀b o,s.heap.get? b=some o->b∉l5 outer->∃o',B.get? b=some o'
 os:s'.os=s.os
 bare:AllBare s'.gens
structure ID(cp:Value->Prop)(P:NC)(w:NF)(outer:List Env)(H:Hp)(s:Nv)(B:Heap)(H':Hp)(s':Nv)(ea:Addr)(cls:Value)(od:NG):Prop extends Fly0 P w outer H s B H' s' where
 fl:jS cp B outer ea cls od .none s'.heap
def IR(cp:Value->Prop)(P:NC)(w:NF):kc:=λouter H s E e s'=>∃ea cls od B H',e=.ref ea/\ID cp P w outer H s B H' s' ea cls od/\H' ea=none/\E cls od H'
abbrev bI(P:NC)(w:NF):kc:=IR (λv=>v=.none) P w
theorem bj{cp:Value->Prop}{X:Cx}:dB (IR cp P w) X (λ_ _ _=>False):=λ_ _ _ _ _ _ _ h=>by
 obtain⟨_,_,_,_,_,_,_,_,f⟩:=h;exact f.elim
theorem uq{B:Heap}(ok:ly P w H h)(cov:∀b o,H b=some o->∃ob,B.get? b=some ob)(k:B.StaysIn h)(k':B.StaysIn h'):ly P w H h':=λa o e=>
 (ok a o e).stay (λb u hb q=>by
  have hb':∃ob,B.get? b=some ob:=by
   rcases hb with rfl | hb
   ·exact cov _ _ e
   ·exact cov _ _ hb
  obtain⟨ob,c⟩:=hb';have:=k b ob c;rw[q]at this;cases this;exact k' b _ c) (λ_ q=>q) λ_ _ q=>q
theorem bQ.there(x:bQ P w H h a o):∃ob,h.get? a=some ob:=by
 cases o with
 |lst xs=>obtain⟨_,_,_,_,e⟩:=x;exact⟨_,e⟩
 |tup xs=>obtain⟨_,_,_,ob,e,_⟩:=x;exact⟨_,e⟩
 |dK kvs=>obtain⟨_,_,_,_,o,_,_,e,_⟩:=x;exact⟨_,e⟩
 |dT kvs=>obtain⟨_,_,_,_,o,_,_,e,_⟩:=x;exact⟨_,e⟩
 |set S n=>obtain⟨o,_,_,_,e,_⟩:=x;exact⟨_,e⟩
 |ins C dx fs=>obtain⟨_,_,_,e,_⟩:=x;exact⟨_,e⟩
 |own y=>exact x
 |xd fs=>obtain⟨_,⟨_,_,_,e,_⟩,_⟩:=x;exact⟨_,e⟩
 |rng lo hi=>obtain⟨_,_,_,e⟩:=x;exact⟨_,e⟩
 |frz ob u=>obtain⟨e,_⟩:=x;exact⟨_,e⟩
 |tbl ps=>exact⟨_,show h.get? a=some _ from x⟩
 |met f y=>exact⟨_,show h.get? a=some _ from x⟩
 |ext φ=>obtain⟨_,e,_⟩:=x;exact e
section
variable {P:NC}{w:NF}{K:Nr}{mg:Nz}{base:Heap}{N:ND}{qual:Str}{scope:Scope}{f:Addr}{cd:Value}{A:NE}{outer:List Env}{s:Nv}{H:Hp}{E E1:XK}{CX:kc}
theorem Fly0.up{cp:Value->Prop}{pins:Nt}{σ:St}{s':Nv}{ea:Addr}{cls:Value}{od:NG}(I:Inv X pins σ H1 s1)(hex:X.ex=[])(hst:X.stack=X.env::X.outer)(hfr:X.env.frame=some X.env.locals)(hP:X.prog=P)(hw:X.w=w)
  (x:Fly0 P w X.stack H1 s1 B H' s') (fl2:jS cp B X.outer ea cls od .none h') (up:s'.heap.UpToSlots h') :
  ID cp P w X.outer X.H₀ X.s₀ B H' {s' with heap:=h' } ea cls od:=by
 have c:∀b,b∉X.ex:=λb=>by rw[hex];simp
 have m:∀b o,X.s₀.heap.get? b=some o->b∉X.fs->b∉l5 X.stack:=λb o e a r=>by
  rw[hst]at r;unfold l5 at r;rw[q0Q,hfr]at r;rcases MM.mp r with z | z
  ·exact q0N (MX e) (by rw[z];exact Nat.not_lt.mpr I.ok.above)
  ·exact a z
 have l:∀b,b∈X.fs->b∈l5 X.stack:=λb a=>by
  rw[hst];unfold l5;rw[q0Q,hfr];exact MN _ a
 have G:∀b o,X.s₀.heap.get? b=some o->b∉X.fs->∃p,B.get? b=some p:=λb o e a=>by
  obtain⟨C,j⟩:=I.base.there b o e (c b);exact x.old b C j (m b o e a)
 have J:∀b∈X.fs,X.H₀ b=none:=I.ok.frf;have n:∀b o,X.s₀.heap.get? b=some o->X.H₀ b=none->b∈X.fs->∃n,h'.get? b=some {o with slots:=n}:=λb o e g a=>by
  obtain⟨sl1,j⟩:=I.base.slot b o e g a (c b);have D:=I.base.free b o e g (c b);obtain⟨sl2,k⟩:=x.un.slot b _ j D (l b a) (by simp);obtain⟨_,o3,M,O⟩:=x.ff.mem (l b a);rw[k]at M;cases M;obtain⟨y,T⟩:=up b _ k O;exact⟨y,T⟩
 refine⟨⟨fl2.st,fl2.ff,⟨λb o e g a _=>?_,λb o e g a _=>n b o e g a,λb o e g _=>?_,λb o e _=>?_,λb L q=>x.un.tups b L (I.base.tups b L q),λb o u q=>x.un.frzs b o u (I.base.frzs b o u q),λb ps q=>?_⟩,uq x.hok x.cov x.st fl2.st,x.cov,G,x.os.trans I.os,x.bare⟩,fl2⟩
 ·have j:=I.base.keep b o e g a (c b)
  have D:=I.base.free b o e g (c b);have k:=x.un.keep b o j D (m b o e a) (by simp);obtain⟨p,v⟩:=G b o e a;have:=x.st b p v;rw[k]at this;cases this;exact fl2.st b _ v
 ·obtain⟨C,j⟩:=I.base.there b o e (c b)
  exact x.un.free b C j (I.base.free b o e g (c b)) (by simp)
 ·by_cases a:b∈X.fs
  ·obtain⟨z,S⟩:=n b o e (J b a) a
   exact⟨_,S⟩
  ·obtain⟨p,v⟩:=G b o e a
   exact⟨_,fl2.st b _ v⟩
 ·obtain⟨m1,j⟩:=I.base.tbls b ps q
  obtain⟨R,k⟩:=x.un.tbls b _ j;exact⟨m1++R,by rw[k,Array.append_assoc]⟩
theorem bo{cp:Value->Prop}(hE:∀c d H',E1 c d H'->E c d H'):dB (IR cp P w) (gS (IR cp P w) P w K mg base N qual scope f cd A outer s H E) E1:=by
 intro pins σ H1 s1 e s' I x;obtain⟨l,g,j,B,H',rfl,a,k,q⟩:=x;refine HX I.ok.frames rfl a.fl λh' b up=>?_;exact⟨l,g,j,B,H',rfl,Fly0.up I rfl rfl rfl rfl rfl a.toFly0 b up,k,hE _ _ _ q⟩
def Fg(X:Cx)(E:XK):Prop:=∀(pins:Nt) (σ:St) (H:Hp) (s:Nv) (h':Heap) (e:Addr) (cls:Value) (vs:Nw),Inv X pins σ H s->Heap.MadeExcOf s.heap h' e cls vs->E cls none H->X.xe (.ref e) {s with heap:=h' }
theorem fE(hE:∀c d H',E1 c d H'->E c d H'):Fg (gS (bI P w) P w K mg base N qual scope f cd A outer s H E) E1:=by
 intro pins σ H1 s1 h1 e cls vs I x q;have m:∀j∈(gS (bI P w) P w K mg base N qual scope f cd A outer s H E).stack,∀b,j.frame=some b->b∈l5 (gS (bI P w) P w K mg base N qual scope f cd A outer s H E).stack:=λj C b r=>List.mem_filterMap.mpr ⟨j,C,r⟩;obtain⟨t0,p,ht0,htt⟩:=x.there;have B:∀b,s1.heap.get? b=none->H1 b=none:=λb r=>by
  cases z:H1 b with
  |none=>rfl
  |some o=>
   obtain⟨y,g⟩:=(I.hok b o z).there;rw[r]at g;cases g
 have n:=PySem.W.funFrames_hide I.stack m;have a:Fly0 P w (gS (bI P w) P w K mg base N qual scope f cd A outer s H E).stack H1 s1 (PySem.W.hideAll s1.heap (l5 (gS (bI P w) P w K mg base N qual scope f cd A outer s H E).stack)) H1 {s1 with heap:=h1}:=
  ⟨λb o e=>x.keeps b o (PySem.W.of_hideAll _ e),n.of_keeps λb o e _=>⟨o,x.keeps b o e,rfl⟩,Un.kept x.keeps,I.hok.kept x.keeps,λb o z=>by
   obtain⟨y,g⟩:=(I.hok b o z).there;exact⟨y,PySem.W.hideAll_get _ g λl=>by rw[I.stkFree b l]at z;cases z⟩,λb o e l=>⟨o,PySem.W.hideAll_get _ e l⟩,rfl,I.bare⟩
 have k:(PySem.W.hideAll s1.heap (l5 (gS (bI P w) P w K mg base N qual scope f cd A outer s H E).stack)).get? e=none:=by
  cases z:(PySem.W.hideAll s1.heap (l5 (gS (bI P w) P w K mg base N qual scope f cd A outer s H E).stack)).get? e with
  |none=>rfl
  |some o=>have:=PySem.W.of_hideAll _ z;rw[x.new]at this;cases this
 refine AG (cp:=λv=>v=.none) (s:={s1 with heap:=h1}) I.ok.frames a.ff rfl p a.st k rfl rfl ⟨_,rfl,rfl⟩ λh' u up=>?_;exact⟨e,cls,none,_,H1,rfl,Fly0.up I rfl rfl rfl rfl rfl a u up,B e x.new,hE _ _ _ q⟩
end
structure qa(K:Nr)(C:Addr)(bmB:Nw)(newId:String):Prop where
 exc:PySem.W.excIn K C bmB newId=true
set_option tactic.hygienic true in
theorem qa.obj{K:Nr}{bmB:Nw}{newId:String}(c:qa K C bmB newId)(X:K.In h):∃bm N nm q bs hdct sn sub ab col dd k0 k1 k2 k3 k5 mN,
  h.get? C=some (excClassObj nm q C N bs bm hdct sn sub ab col dd k0 k1 k2 k3 k5 newId)/\h.Ns N mN/\mN "__init__"=none/\OwnTail h bmB bm/\∃dd' cd sl,K.lookup C=some ⟨.type "type",dd',.cls cd,sl⟩/\cd.mro=.ref C::bm:=by
 have q:=c.exc;unfold PySem.W.excIn at q;cases hl:K.lookup C with
 |none=>rw[hl]at q;cases q
 |some ob=>
  rw[hl]at q
  split at q
  ·rename_i dd cd sl e
   cases e
   split at q
   ·rename_i C' bm k0 k1 k2 k3 n k5 hm hs
    simp only[q0L,beq_iff_eq,Bool.not_eq_true']at q;obtain⟨⟨⟨⟨⟨rfl,rfl⟩,hdel⟩,ht⟩,hok⟩,hni⟩:=q;have ho:=X _ _ hl;have hsl:sl=#[k0,k1,k2,k3,some (.builtin n),k5]:=Array.toList_inj.mp hs;subst hsl;obtain⟨nm,bs,mro,ns,qn,hd,sn,sub,ab,col,del⟩:=cd;dsimp only at hm hdel hok hni ho;subst hm hdel;exact⟨bm,ns,nm,qn,bs,hd,sn,sub,ab,col,dd,k0,k1,k2,k3,k5,_,ho,.of_isNs (PySem.W.isNs_of_in X hok),PySem.W.nsMap_none_of_in X hok hni,PySem.W.tail_of_in X ht,dd,_,_,rfl,rfl⟩
   ·cases q
  ·cases q
section
variable {X:Cx}{x:Str}{np cpos pos:Pos}{e₀:Expr}{cy:NH}{t:TA}{C:Addr}{B Bn newId nid initId inN:String}{bm bmN:Nw}{E:XK}
def wc(C:Addr)(E:XK)(t:TA):TS:=λ_ σ H=>t σ H λvs H1=>vs.length<=sizeLine/\E (.ref C) none H1
theorem Dq(c:qa X.K C bm newId)(Fn:ExcBaseFacts Bn newId inN bmN)(hBn:bm.contains (.type Bn)=true)(FB:ExcBaseFacts B nid initId bm)(hc:X.calm=true)(hg:Gl X x)(hm:X.mg x=some (.ref C))(hx:Fg X E)(ha:PA X (e₀::cy) t)
  (hd:autoParam ((x==("__debug__":Str))=false) zz2._auto_1)
  (he:autoParam (starEach (e₀::cy) X.env=(false,eval e₀ X.env)::starEach cy X.env) zz0._auto_1) (hpl:autoParam ((backTo cpos (starEach cy X.env)).any (·.1)=false) zz0._auto_1) :
  PS X (.Raise (some (.Call (.Name x np) (e₀::cy) [] cpos)) none pos) (wc C E t):=by
 intro a s σ H D I h;obtain⟨l,N,nm,q,bs,hdct,sn,sub,ab,col,dd,k0,k1,k2,k3,k5,mN,r,p,k,T,_⟩:=c.obj I.mod.kin;refine wpAny_Raise_call_subU (C:=C) (nm:=nm) (q:=q) (N:=N) (bs:=bs) (bm:=l) (hdct:=hdct) (sn:=sn) (sub:=sub) (ab:=ab) (col:=col) (dd:=dd) (k0:=k0) (k1:=k1) (k2:=k2) (k3:=k3) (k5:=k5)
  Fn hBn FB (mN:=mN) (T.hasType FB.hasBase) (I.ok.hd hc) (by rw[he];show(false||(backTo cpos (starEach cy X.env)).any (·.1))=false;rw[hpl];rfl) k (ig I hg hm ⟨rfl,?_⟩ hd)
 rw[he];have b:=ha cpos a s σ H _ I h;rw[he]at b;exact Calls.evalArgs_plain (q0S b (λus m ⟨vs,v,g,n,z,o⟩=>⟨rfl,by rw[<- n.length];exact z,g.bk _ _ r,p.keeps g.bk,T.keeps g.bk,λu e j=>hx a σ v m u e _ _ g j o⟩) λ_ _ y=>y)
end
abbrev TX:=St->Hp->VK->XK->Prop
def PX(CX:kc)(X:Cx)(e:Expr)(t:TX):Prop:=
 ∀(pins:Nt) (s:Nv) (σ:St) (H:Hp) (Q:VK) (E:XK) (Ex:Nq),Inv X pins σ H s->t σ H Q E->(∀H1 s1 ev s',Inv X pins σ H1 s1->CX X.stack H1 s1 E ev s'->Ex ev s') ->
  wpAny (model X.prog X.w) X.A (eval e X.env) (EP X pins σ Q) Ex s
section
variable {X:Cx}{CX:kc}{k:Nat}{ps:ND}{sp:Sp}{x:Str}{p pos:Pos}{e:Expr}{es:NH}{t:TA}
def zj(sp:Sp)(t:TA):TX:=λσ H Q E=>t σ H λvs H1=>sp vs H1 Q E
theorem H_(c:cW X.prog X.w X.K X.mg X.base CX k x ps sp)(hr:dv k X.A)(hg:Gl X x)(ha:PA X.nox (e::es) t)(hdb:autoParam ((x==("__debug__":Str))=false) zz2._auto_1)
  (hst:autoParam (starEach (e::es) X.env=(false,eval e X.env)::starEach es X.env) zz0._auto_1) (hpl:autoParam ((backTo pos (starEach es X.env)).any (·.1)=false) zz0._auto_1):PX CX X (.Call (.Name x p) (e::es) [] pos) (zj sp t):=by
 intro a s σ H Q E Ex I h hEx;obtain⟨f,fd,F,w,B,C⟩:=c.ex;refine wpAny_Call_Name_kw (ig I hg w ?_ hdb);refine PySem.W.callWith_K (h₀:=X.base) I.ok.mod.kin B (q0S (ha pos a s σ H _ (I.wish _) h) (λus j ⟨vs,m,n,r,q⟩=>⟨n.kIn,?_⟩) λ_ _ f=>f.elim) hst hpl;have l:Inv X a σ m j:=n.unwish;have y:(us++[]).length=ps.length:=by rw[M8,<- r.length];exact F.len _ _ _ _ q
 have g:=C j us l.kIn y;rw[M8]at g;refine wpAny_call (codeAny_mono (F.run X.A X.stack j m ⟨us,[]⟩ us vs Q E hr l.env0 g r q) λv o b=>?_);cases v with
 |error ev=>exact hEx m j ev o l b
 |ok fl=>
  cases fl with
  |ret u=>exact l.after b
  |next=>exact False.elim b
  |brk=>exact False.elim b
  |cont=>exact False.elim b
end
theorem Fly0.un2{outer:List Env}(x:Fly0 P w outer H s B H' s')(k6:B.StaysIn h6)(up:s'.heap.UpToSlots h6)(fr0:∀b∈l5 outer,H b=none):Un (l5 outer) [] H H' s.heap h6:=by
 have g:∀b o,s.heap.get? b=some o->H b=none->b∈l5 outer->∃g,h6.get? b=some {o with slots:=g}:=λb o e c a=>by
  obtain⟨sl2,n⟩:=x.un.slot b _ e c a (by simp);obtain⟨_,o3,m,p⟩:=x.ff.mem a;rw[n]at m;cases m;obtain⟨k,r⟩:=up b _ n p;exact⟨k,r⟩
 refine⟨λb o e c a _=>?_,λb o e c a _=>g b o e c a,λb o e c _=>x.un.free b o e c (by simp),λb o e _=>?_,x.un.tups,x.un.frzs,x.un.tbls⟩
 ·obtain⟨l,j⟩:=x.old b o e a
  have:=x.st b l j;rw[x.un.keep b o e c a (by simp)]at this;cases this;exact k6 b _ j
 ·by_cases a:b∈l5 outer
  ·obtain⟨z,q⟩:=g b o e (fr0 b a) a
   exact⟨_,q⟩
  ·obtain⟨l,j⟩:=x.old b o e a
   exact⟨_,k6 b _ j⟩
def GY(ea:Addr)(cls:Value)(od:NG)(h:Heap):Prop:=∃o vs,h.get? ea=some o/\o.cls=cls/\o.dict=od/\o.data=.fields vs
abbrev xo(ea:Addr)(cls:Value)(od:NG):HO:=.ext (GY ea cls od)
theorem Inv.caught{cp:Value->Prop}{pins:Nt}{σ:St}{s':Nv}{ea:Addr}{cls:Value}{od:NG}(I:Inv X pins σ H s)(x:Fly0 X.prog X.w X.stack H s B H' s')(fl:jS cp B X.stack ea cls od .none h6)(up:s'.heap.UpToSlots h6)(hn:H' ea=none) :
  Inv X pins σ (aC H' ea (xo ea cls od)) {s' with heap:=h6}:=by
 obtain⟨C,vs,v,U,r,G⟩:=fl.there;have l:B.get? ea=none:=fl.new;have p:ea∉l5 X.stack:=λT=>by
  obtain⟨_,o,D,R⟩:=fl.ff.mem T;rw[v]at D;cases D;exact R _ G
 have j:s.heap.get? ea=none:=by
  cases z:s.heap.get? ea with
  |none=>rfl
  |some o=>
   obtain⟨o',L⟩:=x.old ea o z p;rw[l]at L;cases L
 have u:=x.un2 fl.st up I.stkFree;have m:=uq x.hok x.cov x.st fl.st;have g:∀b o,H' b=some o->b≠ea:=λb o e z=>by rw[z,hn]at e;cases e
 refine I.call' (ch:=[]) x.os ⟨u.keep,u.slot,λb o e n S=>?_,u.there,λb w q=>?_,λb o y q=>?_,λb O q=>?_⟩ (λb o e=>?_) x.bare (λb z=>q0N z (by simp))
 ·have nb:b≠ea:=λz=>by rw[z,j]at e;cases e
  rw[aq nb];exact u.free b o e n S
 ·have a:=u.tups b w q
  rw[aq (g _ _ a)];exact a
 ·have a:=u.frzs b o y q
  rw[aq (g _ _ a)];exact a
 ·obtain⟨more,a⟩:=u.tbls b O q
  exact⟨more,by rw[aq (g _ _ a)];exact a⟩
 ·by_cases J:b=ea
  ·subst J
   rw[ad]at e;cases e;exact⟨⟨C,vs,v,U,r,G⟩,⟨C,v⟩,λh1 h2 ⟨o,M,e1,e2,Z,Y⟩ k=>⟨o,M,k o e1,e2,Z,Y⟩⟩
  ·rw[aq J]at e
   exact(m b o e).stay (λ_ _ _ q=>q) (λc q=>by rw[aq (g _ _ q)];exact q) λc w q=>by rw[aq (g _ _ q)];exact q
end L2
namespace PySem
open Sem (wp)
section
variable {M:Model}{A:NE}{E:Nq}
variable {nm q nm' q':Str}{C N D N':Addr}{bs bm bs' bm':Nw}{hdct hdct':Bool}{sn sn':ND}{sub sub':Nw}{ab ab':Bool}{col col':Option Bool}{dd dd':NG}{k0 k1 k2 k3 k5 k0' k1' k2' k3' k5':Option Value}{newId newId':String}
theorem oO{h:Heap}{g:Array GenState}{d:Drawn}{t:Nat}{os:OsState}{e:Addr}{oe:Obj}{Q:Bool->Shared->Prop}
  (hC:h.get? C=some (excClassObj nm q C N bs bm hdct sn sub ab col dd k0 k1 k2 k3 k5 newId)) (hD:h.get? D=some (excClassObj nm' q' D N' bs' bm' hdct' sn' sub' ab' col' dd' k0' k1' k2' k3' k5' newId')) (he:h.get? e=some oe) (hcls:oe.cls=.ref C)
  (hbase:bm'.contains (.type "BaseException")=true) (hsub:(Value.ref C::bm).contains (.ref D)=true)
  (hq:Q true ⟨h,g,d,t,os⟩):wpAny M A (excMatches (.ref e) (.ref D)) Q E ⟨h,g,d,t,os⟩:=by
 have a:(Value.ref D::bm').contains (.type "BaseException")=true:=by rw[List.contains_cons,hbase,Bool.or_true]
 have f:=tc_notTuple;unfold excMatches
 repeat (first | (with_reducible refine wpAny_loadPart_at he ?_;rw[hcls]) | with_reducible refine wpAny_loadPart_at hD ?_ | (with_reducible refine wpAny_isSubtype_exc hD ?_;rw[a]) | (with_reducible refine wpAny_isSubtype_exc hC ?_;rw[hsub]) | wp_step)
 exact hq
end
end PySem
namespace L2
open PySem PySem.Spec PyProof.Rows
section
variable {X:Cx}{pins:Nt}{σ:St}{H:Hp}{s:Nv}
theorem k8{i:Nat}{x:Str}{v:V}{pos:Pos}{Q:Unit->Shared->Prop}(I:Inv X pins σ H s)(hN:X.N.Nodup)(hi:X.N[i]?=some x)(hk:X.env.kindOf x=some .local)
  (h:∀s',Inv X pins (σ.set i none) H s'->Q () s'):wpAny M A (do bindName X.env x .none;unbindBehindTheSuite X.env x pos) Q E s:=by
 have g:X.env.scope.names.lookup x=some .local:=hk;refine q04 (wpAny_bindName (nS (v:=.non) I hN hi (.inl g) rfl (λs1 a=>?_) (.inr g)));unfold unbindBehindTheSuite;have B:i<σ.length:=by rw[I.len];exact(Mw.mp hi).1
 obtain⟨m,S,T⟩:=id a.loc;obtain⟨u,ru,lk⟩:=T i x .non hi (M_ B) (.inl g);have hm:m x=some u:=by
  rcases lk with⟨_,e⟩ | ⟨z,_⟩
  ·exact e
  ·rw[hk]at z;rcases z with z | z<;>cases z
 have C:(X.env.scope.kind==.class||(X.env.scope.kind==.module&&X.env.locals != X.env.globals))=false:=by rw[I.ok.kind];rfl
 refine wpAny_onRaise (wpAny_unbindName_local hk S hm C λh' R J l=>?_);have cne:=a.cne;obtain⟨oL,_,_,hoL,_⟩:=id S;refine h _ ⟨a.ok,a.os,a.bare,⟨λb o e n L w=>?_,λb o e n L w=>?_,a.base.free,λb o e w=>?_,a.base.tups,a.base.frzs,a.base.tbls⟩,⟨_,J,λj y U r G e3=>?_⟩,λy c e=>?_,a.free,a.freeC,λp hp=>?_,λb ob e=>?_,by rw[List.length_set];exact I.len⟩
 ·exact(l.2 b (MQ (MP (MX e) a.ok.above))).trans (a.base.keep b o e n L w)
 ·obtain⟨Y,r⟩:=a.base.slot b o e n L w
  exact⟨Y,(l.2 b (MQ (MP (MX e) a.ok.above))).trans r⟩
 ·obtain⟨o',r⟩:=a.base.there b o e w
  exact⟨o',(l.2 b (MQ (MP (MX e) a.ok.above))).trans r⟩
 ·by_cases D:j=i
  ·subst D
   rw[M_ B]at G;cases G
  ·rw[List.getElem?_set_ne (Ne.symm D)]at G
   obtain⟨R,Z,q⟩:=T j y U r (by rw[List.getElem?_set_ne (Ne.symm D)];exact G) e3;refine⟨R,Z,?_⟩;rcases q with⟨k,e⟩ | ⟨k,c,e,z⟩
   ·refine .inl ⟨k,?_⟩
    have:y≠x:=λe=>D (qG hN r (e▸hi));simp[this,e]
   ·exact .inr ⟨k,c,e,z.sameBut l (cne y c e)⟩
 ·obtain⟨O,z⟩:=a.cell y c e
  exact⟨O,z.sameBut l (cne y c e)⟩
 ·obtain⟨e,n,ne,nf,d⟩:=a.pin p hp
  exact⟨(l.2 p.1 ne).trans e,n,ne,nf,d⟩
 ·refine(a.hok b ob e).stay (λc O hc q=>(l.2 c ?_).trans q) (λ_ q=>q) λ_ _ q=>q
  rintro rfl;rcases hc with rfl | hc
  ·rw[a.free]at e;cases e
  ·rw[a.free]at hc;cases hc
abbrev Cx.held(X:Cx)(ea:Addr):Cx:={X with A:=X.A.mark (some (.ref ea)),calm:=false,xe:=λ_ _=>False}
theorem Inv.held(I:Inv X pins σ H s)(ea:Addr):Inv (X.held ea) pins σ H s:=
 ⟨⟨I.ok.mod,I.ok.kind,I.ok.glob,I.ok.blt,I.ok.above,I.ok.inj,I.ok.has,I.ok.cab,(λz=>by cases z),I.ok.frames,I.ok.stk,I.ok.exf,I.ok.bs,I.ok.bsz,I.ok.noex,I.ok.exfs,I.ok.funs,I.ok.frf⟩,I.os,I.bare,I.base,I.loc,I.cell,I.free,I.freeC,I.pin,I.hok,I.len⟩
theorem Inv.unheld{ea:Addr}(hd:X.calm=true->X.A.handled=none)(I:Inv (X.held ea) pins σ H s):Inv X pins σ H s:=
 ⟨⟨I.ok.mod,I.ok.kind,I.ok.glob,I.ok.blt,I.ok.above,I.ok.inj,I.ok.has,I.ok.cab,hd,I.ok.frames,I.ok.stk,I.ok.exf,I.ok.bs,I.ok.bsz,I.ok.noex,I.ok.exfs,I.ok.funs,I.ok.frf⟩,I.os,I.bare,I.base,I.loc,I.cell,I.free,I.freeC,I.pin,I.hok,I.len⟩
end
def En(K:Nr)(C D:Addr):Prop:=∃dd cd sl,K.lookup C=some ⟨.type "type",dd,.cls cd,sl⟩/\cd.mro.contains (.ref D)=true
section
variable {X:Cx}{pins:Nt}{σ:St}{H:Hp}{s:Nv}
theorem Inv.moved{ch:Ny}{h':Heap}{tk:Nat}(I:Inv X pins σ H s)(hf:∀b∈ch,pX X pins H b)(k:∀b o,b∉ch->s.heap.get? b=some o->h'.get? b=some o):Inv X pins σ H {s with heap:=h',toks:=tk}:=by
 have a:∀b o,H b=some o->b∉ch:=λb o e z=>by rw[(hf b z).1]at e;cases e
 refine I.call' (s':={s with heap:=h',toks:=tk}) (ch:=ch) rfl ⟨λb o e _ _ hc=>k b o hc e,λb o e _ _ hc=>⟨o.slots,k b o hc e⟩,λb o e n hc=>n,λb o e hc=>⟨o,k b o hc e⟩,λb xs q=>q,λb o y q=>q,λb qs q=>⟨#[],by rw[q];simp⟩⟩
  (λb o e=>(I.hok b o e).stay (λc u hc q=>k c u (by
   rcases hc with rfl | hc
   ·exact a _ _ e
   ·exact a _ _ hc) q) (λ_ q=>q) λ_ _ q=>q) I.bare λb g=>?_
 obtain⟨f0,p,f2,m,l,j⟩:=hf b g;exact⟨m,p,l,j⟩
theorem Inv.movedT{ch:Ny}{h':Heap}{tk:Nat}{T:Addr}{ob:HO}(I:Inv X pins σ H s)(hf:∀b∈ch,pX X pins H b)(k:∀b o,b∉ch->s.heap.get? b=some o->h'.get? b=some o)(hT:s.heap.objs.size<=T)(new:bQ X.prog X.w (aC H T ob) h' T ob) :
  Inv X pins σ (aC H T ob) {s with heap:=h',toks:=tk}:=by
 have j:∀b o,H b=some o->b∉ch:=λb o e z=>by rw[(hf b z).1]at e;cases e
 have a:H T=none:=I.hok.fresh hT;have m:∀b o,s.heap.get? b=some o->b≠T:=λb o e z=>by rw[z]at e;exact q0N (MX e) (Nat.not_lt.mpr hT)
 refine I.call' (s':={s with heap:=h',toks:=tk}) (ch:=ch) rfl ⟨λb o e _ _ hc=>k b o hc e,λb o e _ _ hc=>⟨o.slots,k b o hc e⟩,λb o e n hc=>by rw[aq (m b o e)];exact n,λb o e hc=>⟨o,k b o hc e⟩,λb l q=>by rw[aq (aK q a)];exact q,λb o y q=>by rw[aq (aK q a)];exact q,λb qs q=>⟨#[],by rw[aq (aK q a),q];simp⟩⟩
  (λb o e=>?_) I.bare λb g=>?_
 ·by_cases g:b=T
  ·subst g
   rw[ad]at e;cases e;exact new
  ·rw[aq g]at e
   exact(I.hok b o e).stay (λc u hc q=>k c u (by
    rcases hc with rfl | hc
    ·exact j _ _ e
    ·exact j _ _ hc) q) (λc q=>by rw[aq (aK q a)];exact q) λc l q=>by rw[aq (aK q a)];exact q
 ·obtain⟨f0,w,f2,v,r,p⟩:=hf b g
  exact⟨v,w,r,p⟩
end
def Jd(K:Nr)(a b:Addr):It:=
 ⟨λi H=>∃xs ys x y,aT K H a xs/\aT K H b ys/\xs[i]?=some x/\ys[i]?=some y,λi H v H'=>∃T x y,v=.ref T/\H T=none/\H'=aC H T (.tup [x,y])/\(∀xs,aT K H a xs->xs[i]?=some x)/\∀ys,aT K H b ys->ys[i]?=some y,
  λi H=>∃xs ys,aT K H a xs/\aT K H b ys/\(xs.length<=i\/ys.length<=i)⟩
theorem EH{K:Nr}{elts:NH}{tp:Pos}{z TI TO:Addr}(D:ZipApart z TI TO i1 i2 l1 l2) :
  rP P w K (.Tuple elts x1 tp) (Jd K l1 l2) [z,TI,TO,i1,i2] z (λi h=>IsZip h z TI TO .none/\IsPair h TI (.ref i1) (.ref i2)/\(∃a b,IsPair h TO a b)/\h.IsListIter i1 l1 i/\h.IsListIter i2 l2 i) where
 mem:=by simp
 obj:=λi h n b L=>by
  obtain⟨p,g,⟨a,c,j⟩,⟨o1,e1,c1,d1⟩,⟨o2,e2,c2,d2⟩⟩:=n;simp only[MM,List.not_mem_nil,or_false]at L;rcases L with rfl | rfl | rfl | rfl | rfl
  ·exact⟨_,p,λv q=>by cases q⟩
  ·exact⟨_,g,λv q=>by cases q⟩
  ·exact⟨_,j,λv q=>by cases q⟩
  ·exact⟨_,e1,λv q=>by rw[d1]at q;cases q⟩
  ·exact⟨_,e2,λv q=>by rw[d2]at q;cases q⟩
 keep:=λi h h' n m=>by
  obtain⟨p,g,⟨a,b,j⟩,h1,h2⟩:=n;exact⟨m z (by simp) _ p,m TI (by simp) _ g,⟨a,b,m TO (by simp) _ j⟩,h1.at λo e=>m i1 (by simp) o e,h2.at λo e=>m i2 (by simp) o e⟩
 item:=by
  intro X hP hw hK l i M s σ H E I hf n hg;subst hP hw hK;obtain⟨xs,ys,x,y,u,r,hx,hy⟩:=hg;obtain⟨R,C,p1,a7⟩:=I.list u;obtain⟨O,B,p2,a0⟩:=I.list r;obtain⟨U,b0,Z⟩:=C.get hx;obtain⟨T,a9,Y⟩:=B.get hy;obtain⟨p,g,⟨a,b,j⟩,h1,h2⟩:=n;refine wpAny_pyNext_zip_item D p g j h1 h2 p1.isList p2.isList (x:=U) (y:=T) (by simpa using b0) (by simpa using a9) λh' a1 a2 a3 a4 a5 a6 m=>?_;refine⟨_,rfl,wpAny_letOwnedTupleGo_zip a1 λS a8 k=>?_⟩;have J:H s.heap.objs.size=none:=I.hok.fresh (MU _);have lt:∀{c o},s.heap.get? c=some o->s.heap.objs.size≠c:=λe=>Nat.ne_of_gt (MX e);have kk:∀c o,c∉[z,TI,TO,i1,i2]->s.heap.get? c=some o->S.get? c=some o:=λc o l e=>
   k.extBut _ _ (λq=>l (by simp[q])) (m c o (λq=>l (by simp[q])) (λq=>l (by simp[q])) (λq=>l (by simp[q])) (λq=>l (by simp[q])) e)
  have hT:S.get? s.heap.objs.size=some {cls:=.type "tuple",data:=.seq #[U,T]}:=k.extBut _ _ (lt p) a5;refine⟨.ref s.heap.objs.size,aC H s.heap.objs.size (.tup [x,y]),I.movedT (tk:=s.toks) hf kk (MU _) ⟨show 2<=sizeLine from by decide +kernel,[U,T],.cons Z (.cons Y .nil),_,hT,rfl,_,rfl⟩,rfl,
   ⟨_,x,y,rfl,J,rfl,λzs G=>by rw[I.list_inj G u];exact hx,λzs G=>by rw[I.list_inj G r];exact hy⟩,
   ⟨a8,k.extBut _ _ D.TIz (m _ _ D.TIz D.TITO D.TIi1 D.TIi2 g),⟨_,_,k.extBut _ _ D.TOz a2⟩,a3.extBut k.extBut D.i1z,a4.extBut k.extBut D.i2z⟩,λb L=>?_⟩
  have b1:b≠s.heap.objs.size:=by
   obtain⟨o1,e1,_⟩:=h1;obtain⟨o2,e2,_⟩:=h2;simp only[MM,List.not_mem_nil,or_false]at L;rcases L with rfl | rfl | rfl | rfl | rfl
   ·exact(lt p).symm
   ·exact(lt g).symm
   ·exact(lt j).symm
   ·exact(lt e1).symm
   ·exact(lt e2).symm
  rw[aq b1];exact(hf b L).1
 done:=by
  intro X hP hw hK l i M s σ H E I hf n hg;subst hP hw hK;obtain⟨xs,ys,u,r,hx⟩:=hg;obtain⟨R,C,p1,a7⟩:=I.list u;obtain⟨O,B,p2,a0⟩:=I.list r;obtain⟨p,g,⟨a,b,j⟩,h1,h2⟩:=n;have l1':=C.length;have l2':=B.length;refine wpAny_pyNext_zip_end (I.ok.hd l) D p g j h1 h2 p1.isList p2.isList ?_ λh' m=>⟨rfl,I.moved (tk:=s.toks) hf λc o l e=>m c o (λq=>l (by simp[q])) (λq=>l (by simp[q])) (λq=>l (by simp[q])) (λq=>l (by simp[q])) e⟩;rcases hx with hx | hx
  ·exact .inl (by simp;omega)
  ·exact .inr (by simp;omega)
 self:=λ_ _ _ _ _ n h=>wpAny_pyIter_zip n.1 h
theorem uv(n l1 l2:Nat)(h1:l1<n)(h2:l2<n):ZipApart (n+4) (n+2) (n+3) n (n+1) l1 l2:=by
 constructor<;>exact λe=>q0N (show(_:Nat)=_ from e) ⋯
section
variable {X:Cx}{elts:NH}{x1:Nat}{tp:Pos}
def G'(K:Nr)(ta:TA):TI:=λσ H R=>ta σ H λvs H1=>∃a b xs ys,vs=[.ref a,.ref b]/\aT K H1 a xs/\aT K H1 b ys/\R (Jd K a b) H1
theorem Fm{a b:Expr}{ta:TA}{p pos:Pos}(hg:Gl X "zip")(hm:X.mg "zip"=none)(ha:PA X [a,b] ta)(hs:autoParam (starEach [a,b] X.env=[(false,eval a X.env),(false,eval b X.env)]) zz0._auto_1)(hs2:autoParam (starEach [b] X.env=[(false,eval b X.env)]) zz0._auto_1):PI X (.Tuple elts x1 tp) (.Call (.Name "zip" p) [a,b] [] pos) (G' X.K ta):=by
 intro g s σ H R I h;refine Call_ (fP I hg hm boot_zip (PyProof.Rows.callWith_type1 (bZ (ha pos g s σ H _ I h) λus c ⟨vs,B,k,O,S⟩=>?_) (by rw[hs,hs2]) (by rw[hs2];rfl)));obtain⟨l1,l2,xs,ys,rfl,o,n,q⟩:=S;obtain⟨u,v,rfl,M,L⟩:=O.two;cases M;cases L;obtain⟨its1,rv1,x,_⟩:=k.list o;obtain⟨its2,rv2,w,_⟩:=k.list n;refine call_zip_2 x.isList w.isList λU r J G D C z6 T=>?_;have m:l1<c.heap.objs.size:=by obtain⟨_,e,_⟩:=x.isList;exact MX e
 have l:l2<c.heap.objs.size:=by obtain⟨_,e,_⟩:=w.isList;exact MX e
 have Y:Inv X g σ B {c with heap:=U }:=k.kept (t':=c.toks) T;refine wpAny_pyIter_zip r ?_;refine⟨c.heap.objs.size+4,[c.heap.objs.size+4,c.heap.objs.size+2,c.heap.objs.size+3,c.heap.objs.size,c.heap.objs.size+1],_,_,B,rfl,Y,EH (l1:=l1) (l2:=l2) ?_,⟨r,J,⟨_,_,G⟩,D,C⟩,λb y=>?_,q⟩
 ·exact uv _ _ _ m l
 ·have j:c.heap.objs.size<=b:=by
   simp only[MM,List.not_mem_nil,or_false]at y;rcases y with e | e | e | e | e<;>(rw[e];first | exact MU _ | exact Nat.le_add_right _ _)
  exact k.fpOk j (k.hok.fresh j)
end
end L2
namespace PySem.W
open PySem PySem.Spec PySem.Calls PyProof.Rows
section
variable {prog:NC}{w:NF}{A:NE}{E:Nq}{s:Nv}{K:Frag}{x D:Addr}{ox:Obj}{odo:Option Obj}{name:Str}
theorem F0(self:Value):bindSpecial (.builtin "BaseException.__getattribute__") self=pure (.builtin "BaseException.__getattribute__",[self]):=F.excAttr_ValueError.ga.bind self
theorem Df{tk:Tok}{Q:Unit->Shared->Prop}(X:K.In s.heap)(I:InstAt s.heap x ox D odo)(hb:mroIn K D (.type "BaseException")=some true)(h:Q () s) :
  wpAny (model prog w) A (checkBuiltinCall "BaseException.__getattribute__" ⟨[.ref x,.str name tk],[]⟩) Q E s:=by
 have k:=I.type (M:=model prog w);have j:=looks_mroIn (M:=model prog w) X hb;have g:Looks (model prog w) s.heap (isInstance (.ref x) (.type "BaseException")) true:=k.andThen j;have e:builtinKind "BaseException.__getattribute__"=some .slot:=by decide +kernel
 have c:splitId "BaseException.__getattribute__"=some ("BaseException","__getattribute__"):=by decide +kernel
 have b:=F.args_bexc_ga (.ref x) (.str name tk);simp only[checkBuiltinCall,e,c];refine q04 (g.at ?_);simp only[Bool.not_true,q0V,if_false];cases a:Manifest.signature? "BaseException.__getattribute__" with
 |none=>exact q05 h
 |some sig=>
  simp only[argsOk,a]at b;show wpAny _ _ (Bind.checkArgs _ sig _) Q E s;rw[b];exact q05 h
theorem BS{Q:Option Value->Shared->Prop}(X:K.In s.heap)(I:InstAt s.heap x ox D odo)(hga:findIn K (.ref D) "__getattribute__"=some (some (.builtin "BaseException.__getattribute__")))(hgh:findIn K (.ref D) "__getattr__"=some none)
  (hb:mroIn K D (.type "BaseException")=some true) (hf:findObj K D odo name=some (.bind g a))
  (hc:∀(A':NE) (R:Result->Shared->Prop),R (.ok (.ret v)) {s with toks:=s.toks+1}->codeAny (model prog w) A' (.call g ⟨[a,.ref x,.ref D],[]⟩) R {s with toks:=s.toks+1}) (hv:handedIn v=true) (h:Q (some v) {s with toks:=s.toks+1}) :
  wpAny (model prog w) A (getAttr? (.ref x) name) Q E s:=by
 obtain⟨hh,gg,d,t,os⟩:=s;have b:=I.type (M:=model prog w);have k:=looks_findIn (M:=model prog w) X hga;have j:=looks_findIn (M:=model prog w) X hgh;have e:=looks_find (M:=model prog w) X I hf;unfold getAttr? getAttrBy? getAttrBy;refine q04 (wpAny_mkText (q04 (wpAny_attempt (q0T (q04 (b.at (q04 (k.at ?_))))))));show wpAny _ _ (getAttrByItsOwn _ _ _ _ _ _) _ _ _;unfold getAttrByItsOwn hookBefore;refine q04 (j.at ?_);refine q04 (wpAny_attempt (q0T ?_));unfold callGetattribute boundAndCalled;show wpAny _ _ (bindSpecial _ _ >>= _) _ _ _;rw[F0];refine q04 (q05 ?_);refine wpAny_call (codeAny_call_builtin F.excAttr_ValueError.ga.plain F.entry_bexc_ga (Df X I hb ?_));have c:slotArgs "__getattribute__" 1 ⟨[.ref x,.str name t],[]⟩=pure (.ref x,[.str name t]):=rfl;unfold Builtin.«object.__getattribute__»;show wpAny _ _ (slotArgs "__getattribute__" 1 ⟨[.ref x,.str name t],[]⟩ >>= _) _ _ _;rw[c];refine q04 (q05 ?_);refine q04 (q05 (q04 (b.at (q04 (e.at ?_)))));show wpAny _ _ (holding [a] (call g [a,.ref x,.ref D]) >>= ret) _ _ _;refine q04 (q0T (wpAny_call (hc _ _ (q05 ?_))));exact handed_on hv (q05 h)
theorem B4{Q:Option Value->Shared->Prop}(X:K.In s.heap)(I:InstAt s.heap x ox D odo)(hga:findIn K (.ref D) "__getattribute__"=some (some (.builtin "BaseException.__getattribute__")))(hgh:findIn K (.ref D) "__getattr__"=some none)
  (hb:mroIn K D (.type "BaseException")=some true) (hm:mroIn K D (.type "object")=some true) (hf:findObj K D odo "__class__"=some (.bind (.builtin "getset_descriptor.__get__") (.builtin "object.__class__"))) (h:Q (some (.ref D)) {s with toks:=s.toks+1}) :
  wpAny (model prog w) A (getAttr? (.ref x) "__class__") Q E s:=
 BS (v:=.ref D) X I hga hgh hb hf (λA' R hR=>class_get (s:={s with toks:=s.toks+1}) (ox:=ox) (od:=odo) X I hm hR) rfl h
structure XTy(K:Frag)(D:Addr):Prop where
 ga:findIn K (.ref D) "__getattribute__"=some (some (.builtin "BaseException.__getattribute__"))
 gh:findIn K (.ref D) "__getattr__"=some none
 mb:mroIn K D (.type "BaseException")=some true
 mo:mroIn K D (.type "object")=some true
 ha:findIn K (.ref D) "__class__"=some (some (.builtin "object.__class__"))
 hn:specialIn K (.builtin "object.__class__") "__get__"=some (some (.builtin "getset_descriptor.__get__"))
 tk:takesIn K (.builtin "object.__class__")=some true
 cl:∃dd cd sl,K.lookup D=some ⟨.type "type",dd,.cls cd,sl⟩
theorem XTy.find(c:XTy K D):findObj K D odo "__class__"=some (.bind (.builtin "getset_descriptor.__get__") (.builtin "object.__class__")):=by
 obtain⟨dd,e,sl,a⟩:=c.cl;have b:clsIn K D=some e:=by unfold clsIn;rw[a]
 unfold findObj;rw[b,Option.bind_some,c.ha,Option.bind_some];simp[c.hn,c.tk]
theorem kitx_exc(c:XTy K D):KitX K (.ref x) (.ref D) (λh=>∃ox,InstAt h x ox D odo) where
 ty:=λ_ _ _ ⟨_,I⟩=>I.type
 it:=λ_ _ X _=>by
  obtain⟨dd,cd,sl,hl⟩:=c.cl;intro A' Q' E' s' k q;unfold isType loadHead;exact q04 (wpAny_loadPart (k _ _ (X _ _ hl)) (q05 q))
 ne:=λh tp dd its n sl X htp=>by
  obtain⟨dd,cd,sl,hl⟩:=c.cl;refine Bool.eq_false_iff.mpr λq=>?_;have e:D=tp:=Value.ref.inj (beq_iff_eq.mp q);subst e;have z:=q0O (λo=>o.map Obj.cls) ((X _ _ hl).symm.trans htp);simp at z
 ca:=λX ⟨_,I⟩ k=>B4 X I c.ga c.gh c.mb c.mo c.find k
end
end PySem.W
namespace L2
open PySem PySem.Spec PyProof.Rows
section
variable {X:Cx}
theorem Eg{h:Heap}(e:GY a (.ref C) none h):∃ox,PySem.W.InstAt h a ox C none:=by
 obtain⟨o,vs,j,g,c,b⟩:=e;exact⟨o,j,g,by unfold PySem.W.notCls;rw[b],by rw[c];trivial⟩
theorem yb:∀{cs:List V} {us:Nw},bq cs us->(∀c∈cs,mI c=true)->us=cs.map yZ
 | [],_,.nil,_=>rfl
 |c::cs,_,.cons r t,h=>by rw[M4,wM r (h c (by simp)),yb t λz hz=>h z (by simp[hz])]
end
structure XR(K:Nr)(C:Addr):Prop where
 ex:∃(bm bmN:Nw) (newId Bn inN B nid initId:String),qa K C bm newId/\ExcBaseFacts Bn newId inN bmN/\bm.contains (.type Bn)=true/\ExcBaseFacts B nid initId bm
theorem dS{X:Cx}{np cpos pos:Pos}{e₀:Expr}{cy:NH}{t:TA}(c:XR X.K C)(hc:X.calm=true)(hg:Gl X x)(hm:X.mg x=some (.ref C))(hx:Fg X E)(ha:PA X (e₀::cy) t)
  (hd:autoParam ((x==("__debug__":Str))=false) zz2._auto_1)
  (he:autoParam (starEach (e₀::cy) X.env=(false,eval e₀ X.env)::starEach cy X.env) zz0._auto_1) (hpl:autoParam ((backTo cpos (starEach cy X.env)).any (·.1)=false) zz0._auto_1) :
  PS X (.Raise (some (.Call (.Name x np) (e₀::cy) [] cpos)) none pos) (wc C E t):=by
 obtain⟨bm,bmN,newId,Bn,inN,B,nid,initId,g,e,b,a⟩:=c.ex;exact Dq g e b a hc hg hm hx ha hd he hpl
section
variable {P:NC}{w:NF}{K:Nr}{mg:Nz}{base:Heap}
theorem cE.okX{qual:Str}{st:Stmt}{f:Addr}{ps:ND}{sp:Sp}(F:cE K x qual st f fd)(S:az N ps (am st))(len:∀vs H Q E,sp vs H Q E->vs.length=ps.length)
  (hbody:∀(cdv:Value) (A:NE) (outer:List Env) (s:Nv) (H:Hp) (vs:List V) (Q:VK) (E:XK),dv k (A.deeper (envOfC qual (am st) s.heap.objs.size f cdv))->sp vs H Q E ->
   ∃t,yf (gS (bI P w) P w K mg base N qual (am st) f cdv A outer s H E) (ba st) t/\t {nx:=λ_ H'=>Q .non H',rt:=Q} (start N vs) H):aY P w K mg base (bI P w) (k+1) f fd ps sp:=by
 obtain⟨oc,od,kV,doc,pm,an,cdv,ct,osl,rfl,c,b⟩:=F.ex;exact GN c b S len λA outer s H vs Q E hr a=>hbody cdv A outer s H vs Q E hr a
theorem aY.lift{CX:kc}{f:Addr}{ps:ND}{sp:Sp}(F:↑aY k f fd ps sp):aY P w K mg base CX k f fd ps sp:=
 ⟨F.len,λA outer s H args us vs Q E hr he hb hv hs=>codeAny_mono (F.run A outer s H args us vs Q E hr he hb hv hs) λr s' hq=>by
  cases r with
  |error e=>exact False.elim hq
  |ok fl=>cases fl<;>exact hq⟩
theorem cW.lift{CX:kc}{ps:ND}{sp:Sp}(c:↑cW k x ps sp):cW P w K mg base CX k x ps sp:=by
 obtain⟨f,a,F,r⟩:=c.ex;exact⟨f,a,F.lift,r⟩
end
theorem qq{X:Cx}{K:Nr}{es:NH}{t:G2}{n:Nat}{pos:Pos}(hK:X.K=K)(hc:X.calm=true)(h:Iw X es t)
  (hn:autoParam ((assignEach es X.env).length=n) zz0._auto_1) (hst:autoParam ((assignEach es X.env).findIdx? (·.1)=none) zz0._auto_1):PG X (.Tuple es k pos) (EL K n t):=hK▸gb hc h hn hst
section
variable {K:Nr}{g:TG}{ti:TT}{te:TE}{σ:St}{H:Hp}{Q:List V->Hp->Prop}
theorem wP{b:Addr}{xs ys:List V}{n:Nat}(hn:n=min xs.length ys.length)(Pv:Nat->List V->St->Hp->Prop)(h0:Pv 0 [] σ H)(hz:∀i acc σ H,Pv i acc σ H->acc.length<sizeLine)(hi:∀i acc σ H,Pv i acc σ H->i<=n)
  (hl:∀i acc σ H,Pv i acc σ H->aT K H a xs/\aT K H b ys)
  (hs:∀i x y acc σ H T,xs[i]?=some x->ys[i]?=some y->Pv i acc σ H->H T=none->g (.ref T) σ (aC H T (.tup [x,y])) λσ2 H3=>ti σ2 H3 λb H4=>if b=true then te σ2 H4 λv H5=>Pv (i+1) (acc++[v]) σ2 H5 else Pv (i+1) acc σ2 H4)
  (he:∀acc σ H,Pv n acc σ H->Q acc H):i4 (Jd K a b) g ti te σ H Q:=by
 refine jI (J:=Jd K a b) (g:=g) (ti:=ti) (te:=te) (Q:=Q) (n:=n) Pv h0 hz hi (λacc σ H w=>⟨xs,ys,(hl _ _ _ _ w).1,(hl _ _ _ _ w).2,⋯⟩)
  (λi acc σ H hlt w=>⟨xs,ys,xs[i]'⋯,ys[i]'⋯,(hl _ _ _ _ w).1,(hl _ _ _ _ w).2,Mv ⋯,Mv ⋯⟩) (λi x acc σ H H2 hlt w y=>?_) he
 obtain⟨T,x,y,rfl,j,rfl,e,c⟩:=y;exact hs i x y acc σ H T (e xs (hl _ _ _ _ w).1) (c ys (hl _ _ _ _ w).2) w j
end
end L2
namespace L2
open PySem PySem.Spec PyProof.Rows
def IA(K:Nr)(a:Addr):It:=
 ⟨λi H=>∃xs x,aT K H a xs/\xs[i]?=some x,λi H v H'=>∃T x,v=.ref T/\H T=none/\H'=aC H T (.tup [.int (i:Int),x])/\∀xs,aT K H a xs->xs[i]?=some x,λi H=>∃xs,aT K H a xs/\xs.length<=i⟩
theorem B5{K:Nr}{elts:NH}{tp:Pos}{e it:Addr}(hei:e≠it) :
  rP P w K (.Tuple elts x1 tp) (IA K l) [e,it] e (λi h=>(∃old,IsEnum h e it i old)/\h.IsListIter it l i) where
 mem:=by simp
 obj:=λi h g b r=>by
  obtain⟨⟨old,a⟩,⟨o1,T,c1,d1⟩⟩:=g;simp only[MM,List.not_mem_nil,or_false]at r;rcases r with rfl | rfl
  ·exact⟨_,a,λv q=>by cases q⟩
  ·exact⟨_,T,λv q=>by rw[d1]at q;cases q⟩
 keep:=λi h U g n=>by
  obtain⟨⟨old,a⟩,h1⟩:=g;exact⟨⟨old,n e (by simp) _ a⟩,h1.at λo e'=>n it (by simp) o e'⟩
 item:=by
  intro X R L S j i y s σ H E I hf g hg;subst R L S;obtain⟨Y,x,B,J⟩:=hg;obtain⟨D,C,p,hz⟩:=I.list B;obtain⟨u,hu,Z⟩:=C.get J;obtain⟨⟨old,a⟩,h1⟩:=g;obtain⟨o1,T,_⟩:=id h1;refine wpAny_pyNext_enum_item a h1 p.isList (x:=u) (by simpa using hu) hei λU a1 a2 a3 a4 n=>?_;refine⟨_,rfl,wpAny_letOwnedTupleGo_enum a1 λh2 O k=>?_⟩;have m:H s.heap.objs.size=none:=I.hok.fresh (MU _);have lt:∀{c o},s.heap.get? c=some o->s.heap.objs.size≠c:=λe=>Nat.ne_of_gt (MX e);have kk:∀c o,c∉[e,it]->s.heap.get? c=some o->h2.get? c=some o:=λc o j q=>
   k.extBut _ _ (λz=>j (by simp[z])) (n c o (λz=>j (by simp[z])) (λz=>j (by simp[z])) q)
  have hT:h2.get? s.heap.objs.size=some {cls:=.type "tuple",data:=.seq #[.int i s.toks,u]}:=k.extBut _ _ (lt a) a3;refine⟨.ref s.heap.objs.size,aC H s.heap.objs.size (.tup [.int i,x]),I.movedT (tk:=s.toks+1) hf kk (MU _) ⟨show 2<=sizeLine from by decide +kernel,[.int i s.toks,u],.cons ⟨_,rfl⟩ (.cons Z .nil),_,hT,rfl,_,rfl⟩,rfl,
   ⟨_,x,rfl,m,rfl,λzs G=>by rw[I.list_inj G B];exact J⟩,⟨⟨u,by simpa using O⟩,a2.extBut k.extBut (Ne.symm hei)⟩,λb r=>?_⟩
  have M:b≠s.heap.objs.size:=by
   simp only[MM,List.not_mem_nil,or_false]at r;rcases r with rfl | rfl
   ·exact(lt a).symm
   ·exact(lt T).symm
  rw[aq M];exact(hf b r).1
 done:=by
  intro X R L S j i y s σ H E I hf g hg;subst R L S;obtain⟨Y,B,J⟩:=hg;obtain⟨D,C,p,hz⟩:=I.list B;obtain⟨⟨old,a⟩,h1⟩:=g;have l1':=C.length;refine wpAny_pyNext_enum_end (I.ok.hd j) a h1 p.isList (by simp;omega) λU n=>⟨rfl,I.moved (tk:=s.toks) hf λc o j e=>n c o (λq=>j (by simp[q])) e⟩
 self:=λ_ _ _ _ _ g h=>let ⟨⟨_,a⟩,_⟩:=g;wpAny_pyIter_enum a h
section
variable {X:Cx}{elts:NH}{x1:Nat}{tp:Pos}
def Ew(K:Nr)(ta:TA):TI:=λσ H R=>ta σ H λvs H1=>∃a xs,vs=[.ref a]/\aT K H1 a xs/\R (IA K a) H1
theorem nL{a:Expr}{ta:TA}{p pos:Pos}(hg:Gl X "enumerate")(hm:X.mg "enumerate"=none)(ha:PA X [a] ta)(hs:autoParam (starEach [a] X.env=[(false,eval a X.env)]) zz0._auto_1):PI X (.Tuple elts x1 tp) (.Call (.Name "enumerate" p) [a] [] pos) (Ew X.K ta):=by
 intro c s σ H R I h;refine Call_ (fP I hg hm boot_enumerate (PyProof.Rows.callWith_type1 (bZ (ha pos c s σ H _ I h) λus g ⟨vs,o,k,w,x⟩=>?_) (by rw[hs];rfl) (by rfl)));obtain⟨l,xs,rfl,B,q⟩:=x;obtain⟨u,rfl,v⟩:=w.one;cases v;obtain⟨its,rv,y,_⟩:=k.list B;refine call_enumerate_list y.isList λD m r z3 C=>?_;have G:Inv X c σ o {g with heap:=D }:=k.kept (t':=g.toks) C;refine wpAny_pyIter_enum m ?_;refine⟨g.heap.objs.size+1,[g.heap.objs.size+1,g.heap.objs.size],_,_,o,rfl,G,B5 (l:=l) (Nat.ne_of_gt (M7 _)),⟨⟨_,m⟩,r⟩,λb n=>?_,q⟩;have j:g.heap.objs.size<=b:=by
  simp only[MM,List.not_mem_nil,or_false]at n;rcases n with e | e<;>(rw[e];first | exact MU _ | exact Nat.le_add_right _ _)
 exact k.fpOk j (k.hok.fresh j)
end
section
variable {K:Nr}{g:TG}{tb:TS}{D:iT}{σ:St}{H:Hp}
theorem lw{xs:List V}(Pv:Nat->St->Hp->Prop)(h0:Pv 0 σ H)(hl:∀i σ H,i<=xs.length->Pv i σ H->aT K H a xs)
  (hs:∀(i:Nat) x σ H T,xs[i]?=some x->Pv i σ H->H T=none->g (.ref T) σ (aC H T (.tup [.int (i:Int),x])) λσ2 H2=>tb {D with nx:=Pv (i+1),ct:=Pv (i+1),bk:=D.nx} σ2 H2) (hd:∀σ H,Pv xs.length σ H->D.nx σ H):vJ (IA K a) g tb D σ H:=by
 refine⟨λi m σ H=>m=xs.length-i/\i<=xs.length/\Pv i σ H,⟨xs.length,by simp,MV _,h0⟩,?_⟩;rintro i m σ H ⟨rfl,c,p⟩;have q:=hl i σ H c p
 by_cases b:i<xs.length
 ·refine .inr ⟨⟨xs,xs[i],q,by simp[b]⟩,Pv (i+1),λσ' k p'=>⟨xs.length-(i+1),⋯,rfl,b,p'⟩,λx k y=>?_⟩
  obtain⟨T,x,rfl,j,rfl,y⟩:=y;exact hs i x σ _ T (y xs q) p j
 ·have e:i=xs.length:=by omega
  subst e;exact .inl ⟨⟨xs,q,MU _⟩,hd σ H p⟩
end
end L2
namespace PySem
open Sem (wp)
section
variable {M:Model}{A:NE}{E:Nq}{env:Env}
variable {nm q:Str}{C N:Addr}{bs bm:Nw}{hdct:Bool}{sn:ND}{sub:Nw}{ab:Bool}{col:Option Bool}{dd:NG}{k0 k1 k2 k3 k5:Option Value}{newId:String}
theorem sS{Q:Flow->Shared->Prop}(hbase:bm.contains (.type "BaseException")=true)(hh:A.handled=none)
  (h:wpAny M A x (λv s₁=>∃e oe vs,v=.ref e/\s₁.heap.get? C=some (excClassObj nm q C N bs bm hdct sn sub ab col dd k0 k1 k2 k3 k5 newId)/\s₁.heap.get? e=some oe/\oe.cls=.ref C/\oe.data=.fields vs/\vs[1]?=some .none/\E (.ref e) s₁) E s) :
  wpAny M A (raiseStmt env (some x) none) Q E s:=by
 have a:(Value.ref C::bm).contains (.type "BaseException")=true:=by rw[List.contains_cons,hbase,Bool.or_true]
 unfold raiseStmt;refine q04 (q0S h (λv s₁ k=>?_) λ_ _ x=>x);obtain⟨e,⟨oc,od,dt,sl⟩,vs,rfl,j,m,c,b,l,n⟩:=k;dsimp only at c b;subst c b;obtain⟨hp,g,d,tk,os⟩:=s₁
 repeat (first | with_reducible refine wpAny_loadPart_at m ?_ | with_reducible refine wpAny_loadPart_at j ?_ | (with_reducible refine wpAny_isSubtype_exc j ?_;rw[a]) | wp_step)
 rw[l];refine q05 ?_;rw[q06 nofun];exact q05 (wpAny_raiseNew_none hh n)
end
section
variable {prog:NC}{w:NF}{A:NE}{E:Nq}{h:Heap}{g:Array GenState}{d:Drawn}{t:Nat}{os:OsState}
variable {nm q:Str}{C N:Addr}{bs bm bmB:Nw}{hdct:Bool}{sn:ND}{sub:Nw}{ab:Bool}{col:Option Bool}{dd:NG}{k0 k1 k2 k3 k5:Option Value}{B Bn newId nid initId inN:String}{bmN:Nw}{K:Nr}
theorem lA(Fn:ExcBaseFacts Bn newId inN bmN)(hBn:bmB.contains (.type Bn)=true)(F:ExcBaseFacts B nid initId bmB)(T:OwnTail h bmB bm)(X:K.In h){cy:Nw}{fI:Addr}{Q:Fin->Shared->Prop}
  (hC:h.get? C=some (excClassObj nm q C N bs bm hdct sn sub ab col dd k0 k1 k2 k3 k5 newId)) (hi:PySem.W.findIn K (.ref C) "__init__"=some (some (.ref fI))) (hf:PySem.W.typeIn K (.ref fI)=some (.type "function"))
  (hq:∀h' e,Heap.MadeExcOf h h' e (.ref C) cy ->
   wpAny (model prog w) A (call (.ref fI) (.ref e::cy)) (λr s'=>r=.none/\Q (.done (.ret (.ref e))) s') E ⟨h',g,d,t,os⟩) (hrest:cy.length<=sizeLine) :
  wpAny (model prog w) A (Builtin.«type.__call__» ⟨.ref C::cy,[]⟩) Q E ⟨h,g,d,t,os⟩:=by
 repeat (first | with_reducible refine wpAny_loadPart_at hC ?_ | with_reducible refine wpAny_madeBy_exc hC ?_ | wp_step)
 refine codeAny_call_builtin_code (Code.quiet_builtin _ Fn.quiet) (wpAny_check_new_subU Fn hBn T hC ?_);refine codeAny_exc_new_subU Fn hBn F T hC ?_ hrest;show wpAny _ _ _ _ _ _;have j:=Mx {cls:=.ref C,data:=.fields #[.ref h.objs.size,.none,.none,.none,.bool false,.none]}
  (Mx {cls:=.type "tuple",data:=.seq cy.toArray} hC)
 have a:((h.push {cls:=.type "tuple",data:=.seq cy.toArray}).push
   {cls:=.ref C,data:=.fields #[.ref h.objs.size,.none,.none,.none,.bool false,.none]}).get? (h.objs.size+1)=some
   {cls:=.ref C,data:=.fields #[.ref h.objs.size,.none,.none,.none,.bool false,.none]}:=by heap_get
 have c:(Value.ref C::bm).contains (.ref C)=true:=by simp
 have k:K.In ((h.push {cls:=.type "tuple",data:=.seq cy.toArray}).push {cls:=.ref C,data:=.fields #[.ref h.objs.size,.none,.none,.none,.bool false,.none]}):=
  X.keeps λb o e=>Mx _ (Mx _ e)
 unfold isInstance
 repeat (first | with_reducible refine wpAny_loadPart_at a ?_ | (with_reducible refine wpAny_isSubtype_exc j ?_;rw[c]) | wp_step)
 show wpAny _ _ (typeLookup (.ref C) _) _ _ _;refine(PySem.W.looks_findIn k hi).at ?_;refine q0T (q04 ((PySem.W.bind_fn k _ hf).at ?_));refine q04 (q0S (hq _ (h.objs.size+1) ⟨λb o l=>Mx _ (Mx _ l),Heap.get?_none_of_le (Nat.le_succ _),h.objs.size,a,Heap.get?_none_of_le (MU _),?_⟩) (λr s' hr=>?_) λ_ _ x=>x)
 ·exact Mx _ (Heap.get?_push_at rfl rfl)
 ·obtain⟨rfl,m⟩:=hr
  wp_walk
  exact m
theorem qJ(Fn:ExcBaseFacts Bn newId inN bmN)(hBn:bmB.contains (.type Bn)=true)(F:ExcBaseFacts B nid initId bmB)(T:OwnTail h bmB bm)(X:K.In h){cy:Nw}{fI:Addr}{Q:Nq}
  (hC:h.get? C=some (excClassObj nm q C N bs bm hdct sn sub ab col dd k0 k1 k2 k3 k5 newId)) (hi:PySem.W.findIn K (.ref C) "__init__"=some (some (.ref fI))) (hf:PySem.W.typeIn K (.ref fI)=some (.type "function"))
  (hq:∀h' e,Heap.MadeExcOf h h' e (.ref C) cy ->
   wpAny (model prog w) (A.under (.builtin "type.__call__" ⟨.ref C::cy,[]⟩)) (call (.ref fI) (.ref e::cy)) (λr s'=>r=.none/\Q (.ref e) s') E ⟨h',g,d,t,os⟩) (hrest:cy.length<=sizeLine) :
  wpAny (model prog w) A (call (.ref C) cy) Q E ⟨h,g,d,t,os⟩:=by
 have f1:=tc_lookup;have f2:=tc_bind (.ref C);have hT:(⟨h,g,d,t,os⟩:Shared).TypeIs (.ref C) "type":=⟨_,hC,rfl⟩;refine wpAny_call (codeAny_of_tree ?_);show wpAny _ _ (callAny (.ref C) _) _ _ _
 repeat (any_goals (first | assumption | with_reducible refine wpAny_loadPart_at hC ?_ | wp_step))
 refine⟨rfl,?_⟩;refine codeAny_call_builtin_at (Code.quiet_builtin _ (by decide +kernel)) entry_typeCall (wpAny_check_type_call_sub hC (lA (hrest:=hrest) Fn hBn F T X hC hi hf λh' e a=>?_));exact hq h' e a
end
section
variable {prog:NC}{w:NF}{A:NE}{E:Nq}{s:Nv}{env:Env}
variable {nm q:Str}{C N:Addr}{bs bm bmB:Nw}{hdct:Bool}{sn:ND}{sub:Nw}{ab:Bool}{col:Option Bool}{dd:NG}{k0 k1 k2 k3 k5:Option Value}{B Bn newId nid initId inN:String}{bmN:Nw}{K:Nr}
theorem oH(Fn:ExcBaseFacts Bn newId inN bmN)(hBn:bmB.contains (.type Bn)=true)(F:ExcBaseFacts B nid initId bmB){x:Str}{np cpos pos:Pos}{args:NH}{fI:Addr}{Q:Flow->Shared->Prop}
  (hbase:bm.contains (.type "BaseException")=true) (hh:A.handled=none) (hplain:(backTo cpos (starEach args env)).any (·.1)=false) (hi:PySem.W.findIn K (.ref C) "__init__"=some (some (.ref fI))) (hf:PySem.W.typeIn K (.ref fI)=some (.type "function"))
  (h:wpAny (model prog w) A (eval (.Name x np) env) (λf s₁=>f=.ref C/\wpAny (model prog w) A (evalArgs (.ref C) true (backTo cpos (starEach args env)) [])
   (λa s₂=>a.kw=[]/\a.pos.length<=sizeLine/\s₂.heap.get? C=some (excClassObj nm q C N bs bm hdct sn sub ab col dd k0 k1 k2 k3 k5 newId)/\K.In s₂.heap/\OwnTail s₂.heap bmB bm /\
    ∀h' e,Heap.MadeExcOf s₂.heap h' e (.ref C) a.pos->wpAny (model prog w) (A.under (.builtin "type.__call__" ⟨.ref C::a.pos,[]⟩)) (call (.ref fI) (.ref e::a.pos))
     (λr s'=>r=.none/\∃oe vs,s'.heap.get? C=some (excClassObj nm q C N bs bm hdct sn sub ab col dd k0 k1 k2 k3 k5 newId)/\s'.heap.get? e=some oe/\oe.cls=.ref C/\oe.data=.fields vs/\vs[1]?=some .none/\E (.ref e) s') E {s₂ with heap:=h' }) E s₁) E s) :
  wpAny (model prog w) A (exec (.Raise (some (.Call (.Name x np) args [] cpos)) none pos) env) Q E s:=by
 rw[arm_exec_Raise];simp only[evalOpt,Option.map];refine q04 (wpAny_standAt (sS (C:=C) (nm:=nm) (q:=q) (N:=N) (bs:=bs) (bm:=bm) (hdct:=hdct) (sn:=sn) (sub:=sub) (ab:=ab) (col:=col) (dd:=dd) (k0:=k0) (k1:=k1) (k2:=k2) (k3:=k3) (k5:=k5) (newId:=newId) hbase hh (q04 (q0S (wpAny_Call_ofName (q0S h (λf s₁ j=>?_) λ_ _ x=>x)) (λv s₃ n=>q04 (wpAny_standAt (q05 n))) λ_ _ x=>x))));obtain⟨rfl,j⟩:=j;unfold callWith;refine q04 (q0T (q0S j (λa s₂ c=>q04 (wpAny_standAt ?_)) λ_ _ x=>x));obtain⟨apos,l⟩:=a;obtain⟨k,b,m,p,T,c⟩:=c;obtain rfl:l=[]:=k;obtain⟨hp,g,d,tk,os⟩:=s₂;simp only[hplain];refine q04 (wpAny_keeperOf_exc m ?_);refine q04 (qJ (hrest:=b) Fn hBn F T p m hi hf λh' e o=>q0S (c h' e o) (λr s' hr=>⟨hr.1,q04 (q0T (wpAny_point (q05 ?_)))⟩) λ_ _ x=>x);obtain⟨_,oe,vs,J,I,G,D,y,u⟩:=hr;exact⟨e,oe,vs,rfl,J,I,G,D,y,u⟩
end
end PySem
namespace PySem.W
open PySem PySem.Spec PySem.Calls PyProof.Rows
open Builtin Builtin.ObjectAttr
def excOut(K:Frag)(C:Addr)(bmB:Nw)(newId:String):Bool:=match K.lookup C with
 |some ⟨.type "type",_,.cls cd,sl⟩=>(match cd.mro,sl.toList with
  | .ref C'::bm,[_,_,_,_,some (.builtin n),_]=>C'==C&&n==newId && !cd.hasDel&&tailIn K bmB bm&&nsOkIn K cd.ns
  |_,_=>false)
 |_=>false
def strip:List Value->List Value
 | .ref _::r=>strip r
 |l=>l
theorem nB(self:Value):∀{l bm:Nw},strip l=bm->refuseLoop self "__setattr__" bm=pure ()->refuseLoop self "__setattr__" l=pure ()
 | [],_,e,h=>by rw[show([]:List Value)=_ from e];exact h
 | .ref c::r,_,e,h=>by rw[refuseLoop_ref];exact nB self (l:=r) e h
 | .type n::r,_,e,h=>by rw[show(Value.type n::r)=_ from e];exact h
 | .none::r,_,e,h=>by rw[show(Value.none::r)=_ from e];exact h
 | .bool b::r,_,e,h=>by rw[show(Value.bool b::r)=_ from e];exact h
 | .int i t::r,_,e,h=>by rw[show(Value.int i t::r)=_ from e];exact h
 | .float i t::r,_,e,h=>by rw[show(Value.float i t::r)=_ from e];exact h
 | .str i t::r,_,e,h=>by rw[show(Value.str i t::r)=_ from e];exact h
 | .bytes i t::r,_,e,h=>by rw[show(Value.bytes i t::r)=_ from e];exact h
 | .builtin n::r,_,e,h=>by rw[show(Value.builtin n::r)=_ from e];exact h
 | .ellipsis::r,_,e,h=>by rw[show(Value.ellipsis::r)=_ from e];exact h
 | .notImplemented::r,_,e,h=>by rw[show(Value.notImplemented::r)=_ from e];exact h
structure XSt(K:Frag)(C:Addr)(f:Str):Prop where
 sa:findIn K (.ref C) "__setattr__"=some (some (.builtin "object.__setattr__"))
 st:∃cd,clsIn K C=some cd/\strip cd.mro=[.type "ValueError",.type "Exception",.type "BaseException",.type "object"]/\cd.hasDict=true/\cd.mro.contains (.type "object")=true/\cd.mro.isEmpty=false
 no:findIn K (.ref C) f=some none
section
variable {prog:NC}{w:NF}{A:NE}{E:Nq}{s:Nv}{K:Frag}{x C:Addr}{ox:Obj}{vs:Array Value}{name:Str}{v:Value}
theorem set_new{Q:Unit->Shared->Prop}(X:K.In s.heap)(c:XSt K C name)(hx:s.heap.get? x=some ox)(hcl:ox.cls=.ref C)(hdn:ox.dict=none)(hdt:ox.data=.fields vs)
  (h:∀h' t',(∀b o,b≠x->s.heap.get? b=some o->h'.get? b=some o)->h'.get? x=some {ox with dict:=some s.heap.objs.size}->h'.Ns1 s.heap.objs.size (λy=>if y=name then some v else none)->Q () {s with heap:=h',toks:=t' }) :
  wpAny (model prog w) A (setAttr (.ref x) name v) Q E s:=by
 obtain⟨Y,M,p,D,q,u⟩:=c.st;obtain⟨oc,od,dt,O⟩:=ox;dsimp only at hcl hdn hdt;subst hcl hdn hdt;have J:InstAt s.heap x ⟨.ref C,none,.fields vs,O⟩ C none:=⟨hx,rfl,rfl,trivial⟩;obtain⟨a,g,d,t,os⟩:=s;have m:=PySem.F.store_object;refine set_plain X J c.sa ?_;have n:Looks (model prog w) a (isInstance (.ref x) (.type "object")) true:=J.type.andThen (looks_mroIn X (by unfold mroIn;rw[M,Option.bind_some,q06 (by rw[u];decide),q]));refine codeAny_call_builtin m.slot.plain m.entry (@check_slot (model prog w) _ _ _ "object.__setattr__" "object" "__setattr__" (.ref x) [.str name t,v] [] _ m.kind m.split n (m.args (.ref x) (.str name t) v) ?_);have S:Looks (model prog w) a (mroOf (.ref C)) Y.mro:=(looks_clsIn X M).andThen .now;rw[osa_eq,refuse_eq];refine q04 (q04 (J.type.at (q04 (S.at ?_))));rw[nB _ p (PySem.F.store_ValueError.passes _)];refine q05 (q04 (J.type.at (q04 ((looks_findIn X c.no).at (q04 (q05 ?_))))));have j:(a.push {cls:=.type "dict",data:=.dict #[]}).get? x=some ⟨.ref C,none,.fields vs,O⟩:=Mx _ hx;have k:x≠a.objs.size:=MQ (MX hx);show wpAny _ _ (storeInOwnDict (.ref x) (.ref C) (.str name t) name v false) _ _ _;refine q04 (q05 (q04 (q04 (wpAny_loadPart hx ?_))));refine q04 ((looks_clsIn X M).at ?_);rw[q06 (by rw[D];decide)];dsimp only;rw[q06 (by simp[typeHasDict])];refine q04 (wpAny_alloc' ?_);refine q04 (wpAny_update' j ?_);refine q05 ?_;have G:((a.push {cls:=.type "dict",data:=.dict #[]}).update x λo=>{cls:=o.cls,dict:=some a.objs.size,data:=o.data,slots:=o.slots}).get? a.objs.size
   = some {cls:=.type "dict",data:=.dict #[]}:=
  (Heap.get?_update_ne _ _ _ _ k.symm).trans (Heap.get?_push_at rfl rfl)
 have B:((a.push {cls:=.type "dict",data:=.dict #[]}).update x λo=>{cls:=o.cls,dict:=some a.objs.size,data:=o.data,slots:=o.slots}).Ns a.objs.size (λ_=>none):=
  ⟨_,#[],_,G,rfl,λe T=>q0N T (by simp),λ_=>rfl⟩
 show wpAny _ _ (storeInDict a.objs.size (.str name t) name v) _ _ _;unfold storeInDict newKeyGuard;refine q04 (q05 (q04 (wpAny_nsSet1 (Heap.Ns1.of_empty B) λh' l R=>?_)));obtain⟨oD,esD,epD,r,I,L⟩:=l.count (Within.cons name v Within.nil);refine q04 (wpAny_lookBehind r (by rw[I];exact pastItsLine_dict (M5 L (by rw[MI,List.length_nil,q0R];omega))) ?_);refine q05 (h h' _ (λb o U e=>(R.2 b (MQ (MX e))).trans ((Heap.get?_update_ne _ _ _ _ U).trans (Mx _ e))) ?_ l);exact(R.2 x k).trans (MH _ j rfl)
end
end PySem.W
namespace L2
open PySem PySem.Spec PyProof.Rows
structure o7(K:Nr)(C:Addr)(bmB:Nw)(newId:String):Prop where
 exc:PySem.W.excOut K C bmB newId=true
set_option tactic.hygienic true in
theorem o7.obj{K:Nr}{bmB:Nw}{newId:String}(c:o7 K C bmB newId)(X:K.In h):∃bm N nm q bs hdct sn sub ab col dd k0 k1 k2 k3 k5,
  h.get? C=some (excClassObj nm q C N bs bm hdct sn sub ab col dd k0 k1 k2 k3 k5 newId)/\OwnTail h bmB bm/\∃dd' cd sl,K.lookup C=some ⟨.type "type",dd',.cls cd,sl⟩/\cd.mro=.ref C::bm:=by
 have q:=c.exc;unfold PySem.W.excOut at q;cases hl:K.lookup C with
 |none=>rw[hl]at q;cases q
 |some ob=>
  rw[hl]at q
  split at q
  ·rename_i dd cd sl e
   cases e
   split at q
   ·rename_i C' bm k0 k1 k2 k3 n k5 hm hs
    simp only[q0L,beq_iff_eq,Bool.not_eq_true']at q;obtain⟨⟨⟨⟨rfl,rfl⟩,hdel⟩,ht⟩,hok⟩:=q;have ho:=X _ _ hl;have hsl:sl=#[k0,k1,k2,k3,some (.builtin n),k5]:=Array.toList_inj.mp hs;subst hsl;obtain⟨nm,bs,mro,ns,qn,hd,sn,sub,ab,col,del⟩:=cd;dsimp only at hm hdel hok ho;subst hm hdel;exact⟨bm,ns,nm,qn,bs,hd,sn,sub,ab,col,dd,k0,k1,k2,k3,k5,ho,PySem.W.tail_of_in X ht,dd,_,_,rfl,rfl⟩
   ·cases q
  ·cases q
def Ht(ea:Addr)(cls:Value)(od:NG)(h:Heap):Prop:=∃o vs,h.get? ea=some o/\o.cls=cls/\o.dict=od/\o.data=.fields vs/\vs[1]?=some .none/\vs[2]?=some .none/\vs.size=6
abbrev xn(ea:Addr)(cls:Value)(od:NG):HO:=.ext (Ht ea cls od)
theorem uR{ea:Addr}{cls:Value}{od:NG}:∀h1 h2:Heap,Ht ea cls od h1->(∀o,h1.get? ea=some o->h2.get? ea=some o)->Ht ea cls od h2:=
 λh1 h2 ⟨o,ws,e1,e2,e3,e4,e5⟩ k=>⟨o,ws,k o e1,e2,e3,e4,e5⟩
section
variable {X:Cx}{o value:Expr}{f:Str}{pos pos':Pos}{ta tv:TE}
def Ds(K:Nr)(ta tv:TE)(f:Str):TS:=λD σ H=>tv σ H λy H1=>ta σ H1 λx H2=>∃a C,x=.ref a/\H2 a=some (xn a (.ref C) none)/\PySem.W.XSt K C f /\
 ∀d,H2 d=none->D.nx σ (aC (aC H2 d (.xd [(f,y)])) a (xn a (.ref C) (some d)))
theorem AM(ha:PE X o ta)(hv:PE X value tv)(hs:swapsWith value (some (.Attribute o f pos')) pos.line X.env=pure false):PS X (.Assign [.Attribute o f pos'] value pos) (Ds X.K ta tv f):=by
 intro j s σ H D I h;refine plainObj_wpAny_Assign_Attribute (bZ (hv j s σ H _ I h) λu S ⟨y,H1,I1,T,q⟩=>bZ (ha j S σ H1 _ I1 q) λov l ⟨x,L,r,U,a,C,ex,M,c,Y⟩=>?_) hs;subst ex;obtain rfl:ov=Value.ref a:=U;obtain⟨⟨n,R,J,O,e3,G,e5⟩,_,_⟩:=(show bQ X.prog X.w L l.heap a (xn a (.ref C) none) from r.hok a _ M);refine PySem.W.set_new r.kIn c J O e3 G λh' t' hk p hn=>?_;have B:L l.heap.objs.size=none:=r.hok.fresh (MU _);have m:l.heap.objs.size≠a:=Nat.ne_of_gt (MX J);have Z:(h'.update a λ_=>n).get? a=some n:=MH _ p (Obj.isFreed_of_fields G);have v:∀b,b≠a->(h'.update a λ_=>n).get? b=h'.get? b:=λb k=>MC _ _ (Ne.symm k);have I3:Inv X j σ (aC L l.heap.objs.size (.xd [(f,y)])) {l with heap:=h'.update a λ_=>n,toks:=t' }:=r.laid (λb u z=>by
   by_cases k:b=a
   ·subst k;rw[J]at z;cases z;exact Z
   ·rw[v b k];exact hk b u k z) (MU _) ⟨_,hn.at λo z=>(v _ m).trans z,λg=>?_⟩
 ·have I4:=I3.write (x:=a) (e:=a) (o:=xn a (.ref C) (some l.heap.objs.size)) (h':=h') (t':=t') (by rw[aq (Ne.symm m),M];exact True.intro) (.inl rfl) (λb u k z=>by rw[<- v b k];exact z) ⟨_,p⟩ ⟨⟨_,R,p,O,rfl,G,e5⟩,⟨_,p⟩,uR⟩
  exact⟨σ,_,I4,Y _ B⟩
 ·show kX (List.lookup g [(f,y)]) (if g=f then some u else none)
  by_cases z:g=f
  ·have k:(g==f)=true:=beq_iff_eq.mpr z
   simp only[List.lookup,k,q07 z];exact T
  ·have k:(g==f)=false:=beq_eq_false_iff_ne.mpr z
   simp only[List.lookup,k,q06 z];exact True.intro
end
def nW(C:Addr)(fn:Str):Sp:=λvs H Q _=>∃a v,vs=[.ref a,v]/\H a=some (xn a (.ref C) none)/\∀d,H d=none->Q .non (aC (aC H d (.xd [(fn,v)])) a (xn a (.ref C) (some d)))
def vz(H:Hp)(e:Addr):Hp:=λb=>if b=e then none else H b
theorem gD{e b:Addr}(h:b≠e):vz H e b=H b:=by unfold vz;rw[q06 h]
theorem lx:vz H e e=none:=by unfold vz;rw[q07 rfl]
def E2(X:Cx)(E:XK):Prop:=∀(pins:Nt) (σ:St) (H2:Hp) (s2:Nv) (hm:Heap) (H3:Hp) (s3:Nv) (e C:Addr) (od:NG),Inv X pins σ H2 s2->Inv X pins σ H3 s3->s2.heap.get? e=none ->
 (∀b o,s2.heap.get? b=some o->hm.get? b=some o)->Un (l5 X.stack) [] (aC H2 e (xn e (.ref C) none)) H3 hm s3.heap->s3.os=s2.os->H3 e=some (xn e (.ref C) od)->E (.ref C) od (vz H3 e)->X.xe (.ref e) s3
section
variable {P:NC}{w:NF}{K:Nr}{mg:Nz}{base:Heap}{N:ND}{qual:Str}{scope:Scope}{f:Addr}{cd:Value}{A:NE}{outer:List Env}{s:Nv}{H:Hp}{E E1:XK}
theorem eN(hE:∀c d H',E1 c d H'->E c d H'):E2 (gS (bI P w) P w K mg base N qual scope f cd A outer s H E) E1:=by
 intro pins σ H2 s2 r H3 s3 e C od I2 I3 new keep un os3 he3 q;obtain⟨⟨oe,vs,U,T,S,R,J⟩,_,_⟩:=(show bQ P w H3 s3.heap e (xn e (.ref C) od) from I3.hok e _ he3);have ne:∀b o,s2.heap.get? b=some o->b≠e:=λb o z y=>by rw[y,new]at z;cases z
 have k:H2 e=none:=by
  cases z:H2 e with
  |none=>rfl
  |some o=>
   obtain⟨I,j⟩:=(I2.hok e o z).there;rw[new]at j;cases j
 have B:∀l∈(gS (bI P w) P w K mg base N qual scope f cd A outer s H E).stack,∀b,l.frame=some b->b∈e::l5 (gS (bI P w) P w K mg base N qual scope f cd A outer s H E).stack:=λl O b a=>.tail _ (List.mem_filterMap.mpr ⟨l,O,a⟩);have D:=PySem.W.funFrames_hide I3.stack B;have u:∀b,b≠e->H2 b=none->aC H2 e (xn e (.ref C) none) b=none:=λb a n=>by rw[aq a];exact n
 have g:Fly0 P w (gS (bI P w) P w K mg base N qual scope f cd A outer s H E).stack H2 s2 (PySem.W.hideAll s3.heap (e::l5 (gS (bI P w) P w K mg base N qual scope f cd A outer s H E).stack)) (vz H3 e) s3:=by
  refine⟨λb o z=>PySem.W.of_hideAll _ z,D,⟨λb o z n a _=>un.keep b o (keep b o z) (u b (ne b o z) n) a (by simp),λb o z n a _=>un.slot b o (keep b o z) (u b (ne b o z) n) a (by simp),λb o z n _=>?_,λb o z _=>un.there b o (keep b o z) (by simp),λb G z=>?_,λb o y z=>?_,λb ps z=>?_⟩,λb o z=>?_,λb o z=>?_,λb o z a=>?_,os3,I3.bare⟩
  ·rw[gD (ne b o z)]
   exact un.free b o (keep b o z) (u b (ne b o z) n) (by simp)
  ·have a:b≠e:=aK z k
   rw[gD a];exact un.tups b G (by rw[aq a];exact z)
  ·have a:b≠e:=aK z k
   rw[gD a];exact un.frzs b o y (by rw[aq a];exact z)
  ·have a:b≠e:=aK z k
   rw[gD a];exact un.tbls b ps (by rw[aq a];exact z)
  ·have a:b≠e:=λy=>by rw[y,lx]at z;cases z
   rw[gD a]at z;exact(I3.hok b o z).stay (λ_ _ _ y=>y) (λc y=>by rw[gD (λx=>by rw[x,he3]at y;cases y)];exact y) λc G y=>by rw[gD (λx=>by rw[x,he3]at y;cases y)];exact y
  ·have a:b≠e:=λy=>by rw[y,lx]at z;cases z
   rw[gD a]at z;obtain⟨I,j⟩:=(I3.hok b o z).there;refine⟨I,PySem.W.hideAll_get _ j λr=>?_⟩;rcases MM.mp r with y | y
   ·exact a y
   ·rw[I3.stkFree b y]at z;cases z
  ·obtain⟨M,L⟩:=un.there b o (keep b o z) (by simp)
   refine⟨M,PySem.W.hideAll_get _ L λr=>?_⟩;rcases MM.mp r with y | y
   ·exact ne b o z y
   ·exact a y
 have m:(PySem.W.hideAll s3.heap (e::l5 (gS (bI P w) P w K mg base N qual scope f cd A outer s H E).stack)).get? e=none:=PySem.W.hideAll_none _ (q0B ..);refine AG (cp:=λv=>v=.none) (s:=s3) I3.ok.frames g.ff rfl U g.st m R J.1 ⟨_,J.2.1,rfl⟩ λh' p up=>?_;rw[T,S]at p;exact⟨e,.ref C,od,_,vz H3 e,rfl,Fly0.up I2 rfl rfl rfl rfl rfl g p up,lx,hE _ _ _ q⟩
end
structure XI(P:NC)(w:NF)(K:Nr)(mg:Nz)(base:Heap)(k:Nat)(C:Addr)(fn:Str):Prop where
 ex:∃(bm bmN:Nw) (newId Bn inN B nid initId:String) (fI:Addr) (fd:NA) (ps:ND),o7 K C bm newId/\ExcBaseFacts Bn newId inN bmN/\bm.contains (.type Bn)=true/\ExcBaseFacts B nid initId bm /\
  PySem.W.findIn K (.ref C) "__init__"=some (some (.ref fI))/\PySem.W.typeIn K (.ref fI)=some (.type "function")/\↑aY k fI fd ps (nW C fn)/\bU K fd ps []
section
variable {X:Cx}{x:Str}{np cpos pos:Pos}{e₀:Expr}{t:TA}{C:Addr}{fn:Str}{k:Nat}{E:XK}
def wj(C:Addr)(fn:Str)(E:XK)(t:TA):TS:=λ_ σ H=>t σ H λvs H1=>vs.length<=sizeLine/\∃v,vs=[v]/\∀d,H1 d=none->E (.ref C) (some d) (aC H1 d (.xd [(fn,v)]))
theorem eW(c:XI X.prog X.w X.K X.mg X.base k C fn)(hr:dv (k+1) X.A)(hc:X.calm=true)(hg:Gl X x)(hm:X.mg x=some (.ref C))(hx:E2 X E)(ha:PA X [e₀] t)
  (hd:autoParam ((x==("__debug__":Str))=false) zz2._auto_1) (he:autoParam (starEach [e₀] X.env=(false,eval e₀ X.env)::starEach [] X.env) zz0._auto_1) (hpl:autoParam ((backTo cpos (starEach [] X.env)).any (·.1)=false) zz0._auto_1) :
  PS X (.Raise (some (.Call (.Name x np) [e₀] [] cpos)) none pos) (wj C fn E t):=by
 obtain⟨bmB,bmN,newId,Bn,inN,B,nid,initId,fI,fd,ps,c1,c2,c3,c4,hi,hf,F,p⟩:=c.ex;intro j s σ H D I h;obtain⟨tl,N,nm,q,bs,hdct,sn,sub,ab,col,dd,k0,k1,k2,k3,k5,hC,T,_⟩:=c1.obj I.mod.kin;refine oH (K:=X.K) (fI:=fI) (C:=C) (nm:=nm) (q:=q) (N:=N) (bs:=bs) (bm:=tl) (hdct:=hdct) (sn:=sn) (sub:=sub) (ab:=ab) (col:=col) (dd:=dd) (k0:=k0) (k1:=k1) (k2:=k2) (k3:=k3) (k5:=k5)
  c2 c3 c4 (T.hasType c4.hasBase) (I.ok.hd hc) (by rw[he];show(false||(backTo cpos (starEach [] X.env)).any (·.1))=false;rw[hpl];rfl) hi hf (ig I hg hm ⟨rfl,?_⟩ hd)
 rw[he];have a2:=ha cpos j s σ H _ I h;rw[he]at a2;refine Calls.evalArgs_plain (q0S a2 (λus s₂ ⟨vs,M,G,r1,z,v,ev,q1⟩=>⟨rfl,by rw[<- r1.length];exact z,G.bk _ _ hC,G.kIn,T.keeps G.bk,λh' e a=>?_⟩) λ_ _ y=>y);subst ev;obtain⟨u,rfl,ru⟩:=r1.one;obtain⟨t0,a0,ht0,htt⟩:=a.there;have ne:∀b o,s₂.heap.get? b=some o->b≠e:=λb o z y=>by rw[y,a.new]at z;cases z
 have g:M e=none:=by
  cases z:M e with
  |none=>rfl
  |some o=>
   obtain⟨ob,Y⟩:=(G.hok e o z).there;rw[a.new]at Y;cases Y
 have Im:Inv X j σ (aC M e (xn e (.ref C) none)) {s₂ with heap:=h' }:=by
  refine G.call' (s':={s₂ with heap:=h' }) (ch:=[]) rfl ⟨λb o z _ _ _=>a.keeps b o z,λb o z _ _ _=>⟨o.slots,a.keeps b o z⟩,λb o z n _=>by rw[aq (ne b o z)];exact n,λb o z _=>⟨o,a.keeps b o z⟩,λb xs z=>by rw[aq (aK z g)];exact z,λb o y z=>by rw[aq (aK z g)];exact z,λb ps z=>⟨#[],by rw[aq (aK z g),z];simp⟩⟩ (λb o z=>?_) G.bare (λb z=>q0N z (by simp))
  by_cases p:b=e
  ·subst p
   rw[ad]at z;cases z;exact⟨⟨_,_,a0,rfl,rfl,rfl,rfl,rfl,rfl⟩,⟨_,a0⟩,uR⟩
  ·rw[aq p]at z
   exact(G.hok b o z).stay (λc u _ y=>a.keeps c u y) (λc y=>by rw[aq (aK y g)];exact y) λc xs y=>by rw[aq (aK y g)];exact y
 have S:nW C fn [.ref e,v] (aC M e (xn e (.ref C) none)) (λr H3=>r=.non/\∃d,H3 e=some (xn e (.ref C) (some d))/\E (.ref C) (some d) (vz H3 e)) (λ_ _ _=>False):=by
  refine⟨e,v,rfl,ad,λd m=>⟨rfl,d,ad,?_⟩⟩;have a1:d≠e:=λy=>by rw[y,ad]at m;cases m
  rw[aq a1]at m;have ee:vz (aC (aC (aC M e (xn e (.ref C) none)) d (.xd [(fn,v)])) e (xn e (.ref C) (some d))) e=aC M d (.xd [(fn,v)]):=by
   funext b
   by_cases p:b=e
   ·rw[p,lx,aq (Ne.symm a1)];exact g.symm
   ·rw[gD p,aq p]
    by_cases J:b=d
    ·rw[J,ad,ad]
    ·rw[aq J,aq p,aq J]
  rw[ee];exact q1 d m
 have hl:([Value.ref e,u]++[]).length=ps.length:=(F.len _ _ _ _ S:[V.ref e,v].length=ps.length);have r2:bq [V.ref e,v] [Value.ref e,u]:=.cons rfl (.cons ru .nil);refine wpAny_call (codeAny_mono (F.run _ X.stack _ _ ⟨[.ref e,u],[]⟩ [.ref e,u] _ _ _ (hr.make C [u] []) (Im.env0.make C [u] []) (p _ [Value.ref e,u] Im.kIn hl) r2 S) λr s' l=>?_);cases r with
 |error ev=>exact False.elim l
 |ok fl=>
  cases fl with
  |ret u'=>
   obtain⟨v',H3,R,L,O,U,rv,ev,d,Z,qE⟩:=l;subst ev;have I3:=Im.call' (ch:=[]) R O U L (λb z=>q0N z (by simp));obtain⟨⟨oe,ws,g1,g2,g3,g4,g5⟩,_,_⟩:=(show bQ X.prog X.w H3 s'.heap e (xn e (.ref C) (some d)) from I3.hok e _ Z);exact⟨rv,oe,ws,I3.bk _ _ hC,g1,g2,g4,g5.1,hx j σ M s₂ h' H3 s' e C (some d) G I3 a.new a.keeps O R Z qE⟩
  |next=>exact False.elim l
  |brk=>exact False.elim l
  |cont=>exact False.elim l
end
def IJ(H:Hp)(a C:Addr):Prop:=H a=some (xo a (.ref C) none)\/∃d fs,H a=some (xo a (.ref C) (some d))/\H d=some (.xd fs)
section
variable {X:Cx}{pins:Nt}{σ:St}{H:Hp}{s:Nv}
theorem IJ.inst(I:Inv X pins σ H s)(r:IJ H a C):∃odo ox,PySem.W.InstAt s.heap a ox C odo:=by
 rcases r with r | ⟨d,fs,r,rd⟩
 ·obtain⟨c,_⟩:=(show bQ X.prog X.w H s.heap a (xo a (.ref C) none) from I.hok a _ r)
  obtain⟨ox,z⟩:=Eg c;exact⟨none,ox,z⟩
 ·obtain⟨⟨o,vs,l,k,j,g⟩,_⟩:=(show bQ X.prog X.w H s.heap a (xo a (.ref C) (some d)) from I.hok a _ r)
  obtain⟨mA,n,_⟩:=(show bQ X.prog X.w H s.heap d (.xd fs) from I.hok d _ rd);obtain⟨b,e,_⟩:=uF n;exact⟨some b,o,l,k,by unfold PySem.W.notCls;rw[g],by rw[j];exact e⟩
def IU(K:Nr):List V->Hp->VK->Prop:=λxs H Q=>Gj K xs H Q \/
 (∃a C c b,xs=[.ref a,c]/\mI c=true/\IJ H a C/\PySem.W.XTy K C/\PySem.W.kitOne K (.ref C) (yZ c)=some b/\Q (.bl b) H) \/
 (∃a C tp cs b,xs=[.ref a,.ref tp]/\H tp=some (.tup cs)/\(∀c∈cs,mI c=true)/\IJ H a C/\PySem.W.XTy K C/\PySem.W.kitAny K (.ref C) (cs.map yZ)=some b/\Q (.bl b) H)
theorem iX:iy X (.builtin "isinstance") (IU X.K):=by
 intro g s σ H xs us Q I r h;rcases h with h | ⟨a,C,c,b,rfl,p,x,ty,e,q⟩ | ⟨a,C,y,J,b,rfl,D,p,x,ty,e,q⟩
 ·exact b_ g s σ H xs us Q I r h
 ·obtain⟨u,v,rfl,l,k⟩:=r.two
  cases l;rw[wM k p];obtain⟨odo,m⟩:=x.inst I;exact PySem.W.kia_one (PySem.W.kitx_exc (odo:=odo) ty) I.kIn m e (λz=>nomatch z) λj=>⟨.bl b,H,I.tok j,rfl,q⟩
 ·obtain⟨u,v,rfl,l,k⟩:=r.two
  cases l;cases k;obtain⟨odo,m⟩:=x.inst I;obtain⟨_,its,rvs,o,h1,h2,n,B⟩:=(show bQ X.prog X.w H s.heap y (.tup J) from I.hok y _ D);obtain⟨oc,odd,odt,osl⟩:=o;dsimp only at h2 B;subst h2 B;have G:=yb rvs p;subst G;exact PySem.W.kia_tup (PySem.W.kitx_exc (odo:=odo) ty) I.kIn m h1 e (λz=>nomatch z) λj=>⟨.bl b,H,I.tok j,rfl,q⟩
end
end L2
namespace PySem.W
open PySem PySem.Spec PySem.Calls PyProof.Rows
end PySem.W
namespace SpM
open PySem
def step(c:Nat)(rows:List (List Nat))(d:Nat):List (List Nat):=if d=c then rows++[[]] else rows.dropLast++[rows.getLastD []++[d]]
def E3(c:Nat)(x:Nu):List (List Nat):=x.foldl (step c) [[]]
theorem rO(c:Nat){n:Nat}{rows:List (List Nat)}(h:∀r∈rows,r.length<=n)(d:Nat):∀r∈step c rows d,r.length<=n+1:=by
 intro r hr;unfold step at hr
 split at hr
 ·rcases MK.mp hr with q | q
  ·exact Nat.le_succ_of_le (h r q)
  ·rw[Mz.mp q];simp
 ·rcases MK.mp hr with q | q
  ·exact Nat.le_succ_of_le (h r (List.dropLast_subset _ q))
  ·rw[Mz.mp q,MT]
   have:(rows.getLastD []).length<=n:=by
    by_cases e:rows=[]
    ·rw[e];simp
    ·have a:rows.getLastD []∈rows:=by
      rw[List.getLastD_eq_getLast?,List.getLast?_eq_some_getLast e];exact List.getLast_mem e
     exact h _ a
   simpa using this
theorem Cj(c:Nat)(rows:List (List Nat))(d:Nat):(step c rows d).length<=rows.length+1:=by
 unfold step
 split
 ·simp
 ·rw[MT,List.length_dropLast];simp
theorem nE(c:Nat):∀(x:Nu) (rows:List (List Nat)) (n:Nat),(∀r∈rows,r.length<=n)->(∀r∈x.foldl (step c) rows,r.length<=n+x.length)/\(x.foldl (step c) rows).length<=rows.length+x.length
 | [],rows,n,h=>⟨by simpa using h,by simp⟩
 |d::x,rows,n,h=>by
  obtain⟨h1,h2⟩:=nE c x (step c rows d) (n+1) (rO c h d);have h3:=Cj c rows d;refine⟨λr hr=>?_,?_⟩
  ·have:=h1 r hr;simp only[MI];omega
  ·rw[List.foldl_cons];simp only[MI];omega
theorem lu(c:Nat)(x:Nu):(∀r∈E3 c x,r.length<=x.length)/\(E3 c x).length<=1+x.length:=by
 have:=nE c x [[]] 0 (by simp);unfold E3;simpa using this
end SpM
namespace PyProof.Rows
open PySem PySem.Spec PySem.Builtin PySem.Builtin.Str
end PyProof.Rows
namespace L2
open PySem PySem.Spec PyProof.Rows QL
structure Dz(K:Nr)(C:Addr)(m:Str)(f:Addr):Prop where
 sp:PySem.W.specialIn K (.ref C) "__getattribute__"=some (some (.builtin "type.__getattribute__"))
 rd:PySem.W.readsIn K C (.type "type")=true
 fi:PySem.W.findCls K (.ref C) (.type "type") m=some (.val (.ref f))
 kp:PySem.W.keepIn K (.ref f)=true
section
variable {X:Cx}{CX:kc}{k:Nat}{f C:Addr}{fd:NA}{ps:ND}{sp:Sp}{E:XK}{x m:Str}{p pos apos:Pos}{e:Expr}{es:NH}{t:TA}
theorem Fl{pl:Sem Bool}(c:Dz X.K C m f)(F:aY X.prog X.w X.K X.mg X.base CX k f fd ps sp)(hr:dv k X.A)(hg:Gl X x)(hm:X.mg x=some (.ref C))(hb:bU X.K fd ps [])(hx:dB CX X E)(ha:PA X (e::es) t)
  (hdb:autoParam ((x==("__debug__":Str))=false) zz2._auto_1) (hst:autoParam (starEach (e::es) X.env=(false,eval e X.env)::starEach es X.env) zz0._auto_1) (hpl:autoParam ((backTo pos (starEach es X.env)).any (·.1)=false) zz0._auto_1)
  (ht:autoParam (eval (.Call (.Attribute (.Name x p) m apos) (e::es) [] pos) X.env=(do
   let ov <- eval (.Name x p) X.env
   standAt apos.atName
   let (f,first) <- holding [ov] (getMethod ov m pl)
   callWith pos f first (backTo pos (starEach (e::es) X.env)) (backToKw pos (keywordEach [] X.env)))) zz0._auto_1) :
  PE X (.Call (.Attribute (.Name x p) m apos) (e::es) [] pos) (pO sp [] E t):=by
 intro a s σ H Q I h;refine PySem.W.methodCall_KW (pl:=pl) (ig I hg hm ?_ hdb) ht;refine PySem.W.method_cls I.kIn c.sp (PySem.W.cls_value I.kIn c.rd c.fi rfl ?_);have j:=I.tok (s.toks+1);refine PySem.W.callWith_K (first:=[]) (h₀:=X.base) I.ok.mod.kin c.kp (bZ (ha pos a _ σ H _ j h) λus s2 ⟨vs,H2,b,r,g⟩=>⟨b.kIn,?_⟩) hst hpl;exact oA F hr hb .nil hx b r g
end
section
variable (P:NC)(w:NF)(K:Nr)(mg:Nz)(base:Heap)(CX:kc)
structure BJ(k:Nat)(x m:Str)(ps:ND)(sp:Sp):Prop where
 ex:∃(C f:Addr) (fd:NA),aY P w K mg base CX k f fd ps sp/\mg x=some (.ref C)/\Dz K C m f/\bU K fd ps []
structure mw(k:Nat)(x:Str)(C:Addr)(ps:ND)(sp:Sp):Prop where
 ex:∃(f:Addr) (fd:NA),aY P w K mg base CX k f fd ps sp/\mg x=some (.ref C)/\Mk K C f/\bU K fd ps []
structure cn(k:Nat)(C:Addr)(m:Str)(ps:ND)(sp:Sp):Prop where
 ex:∃(f:Addr) (fd:NA),aY P w K mg base CX k f fd ps sp/\m8 K C/\c_ K C m f/\bU K fd ps []
end
section
variable {X:Cx}{CX:kc}{k:Nat}{C:Addr}{ps:ND}{sp:Sp}{E:XK}{x m:Str}{p pos apos:Pos}{e o:Expr}{es:NH}{t:TA}{ta:TE}
theorem qw{pl:Sem Bool}(c:BJ X.prog X.w X.K X.mg X.base CX k x m ps sp)(hr:dv k X.A)(hg:Gl X x)(hx:dB CX X E)(ha:PA X (e::es) t)
  (hdb:autoParam ((x==("__debug__":Str))=false) zz2._auto_1) (hst:autoParam (starEach (e::es) X.env=(false,eval e X.env)::starEach es X.env) zz0._auto_1) (hpl:autoParam ((backTo pos (starEach es X.env)).any (·.1)=false) zz0._auto_1)
  (ht:autoParam (eval (.Call (.Attribute (.Name x p) m apos) (e::es) [] pos) X.env=(do
   let ov <- eval (.Name x p) X.env
   standAt apos.atName
   let (f,first) <- holding [ov] (getMethod ov m pl)
   callWith pos f first (backTo pos (starEach (e::es) X.env)) (backToKw pos (keywordEach [] X.env)))) zz0._auto_1) :
  PE X (.Call (.Attribute (.Name x p) m apos) (e::es) [] pos) (pO sp [] E t):=by
 obtain⟨C,f,fd,F,a,g,b⟩:=c.ex;exact Fl g F hr hg a b hx ha hdb hst hpl ht
theorem ib(c:mw X.prog X.w X.K X.mg X.base CX k x C ps sp)(hr:dv (k+1) X.A)(hg:Gl X x)(hx:dB CX X E)(ha:PA X (e::es) t)
  (hdb:autoParam ((x==("__debug__":Str))=false) zz2._auto_1) (hst:autoParam (starEach (e::es) X.env=(false,eval e X.env)::starEach es X.env) zz0._auto_1) (hpl:autoParam ((backTo pos (starEach es X.env)).any (·.1)=false) zz0._auto_1) :
  PE X (.Call (.Name x p) (e::es) [] pos) (AQ C sp [] E t):=by
 obtain⟨f,fd,F,a,M,b⟩:=c.ex;exact Gh M F hr hg a b .nil hx ha hdb hst hpl
theorem bV{pl:Sem Bool}(c:cn X.prog X.w X.K X.mg X.base CX k C m ps sp)(hr:dv k X.A)(hx:dB CX X E)(he:PE X o ta)(ha:PA X (e::es) t)
  (hst:autoParam (starEach (e::es) X.env=(false,eval e X.env)::starEach es X.env) zz0._auto_1) (hpl:autoParam ((backTo pos (starEach es X.env)).any (·.1)=false) zz0._auto_1)
  (ht:autoParam (eval (.Call (.Attribute o m apos) (e::es) [] pos) X.env=(do
   let ov <- eval o X.env
   standAt apos.atName
   let (f,first) <- holding [ov] (getMethod ov m pl)
   callWith pos f first (backTo pos (starEach (e::es) X.env)) (backToKw pos (keywordEach [] X.env)))) zz0._auto_1) :
  PE X (.Call (.Attribute o m apos) (e::es) [] pos) (tU C m sp [] E ta t):=by
 obtain⟨f,fd,F,g,a,b⟩:=c.ex;exact FZ he g a F hr b .nil hx ha hst hpl ht
theorem EJ{pl:Sem Bool}(c:cn X.prog X.w X.K X.mg X.base CX k C m ps sp)(hr:dv k X.A)(hx:dB CX X E)(he:PE X o ta)
  (ht:autoParam (eval (.Call (.Attribute o m apos) [] [] pos) X.env=(do
   let ov <- eval o X.env
   standAt apos.atName
   let (f,first) <- holding [ov] (getMethod ov m pl)
   callWith pos f first (backTo pos (starEach [] X.env)) (backToKw pos (keywordEach [] X.env)))) zz0._auto_1) :
  PE X (.Call (.Attribute o m apos) [] [] pos) (tU C m sp [] E ta vR):=by
 obtain⟨f,fd,F,e,a,b⟩:=c.ex;exact DZ he e a F hr b .nil hx ht
end
section
variable {g:TG}{ti:TT}{te:TE}{σ:St}{H:Hp}{Q:List V->Hp->Prop}
theorem ER{x:Str}(Pv:Nat->List V->St->Hp->Prop)(h0:Pv 0 [] σ H)(hz:∀i acc σ H,Pv i acc σ H->acc.length<sizeLine)(hi:∀i acc σ H,Pv i acc σ H->i<=x.cps.size)
  (hs:∀i c acc σ H,x.cps[i]?=some c->Pv i acc σ H->g (.str ⟨#[c]⟩) σ H λσ2 H3=>ti σ2 H3 λb H4=>if b=true then te σ2 H4 λv H5=>Pv (i+1) (acc++[v]) σ2 H5 else Pv (i+1) acc σ2 H4)
  (he:∀acc σ H,Pv x.cps.size acc σ H->Q acc H):i4 (Iu x) g ti te σ H Q:=by
 exact jI (J:=Iu x) (g:=g) (ti:=ti) (te:=te) (Q:=Q) (n:=x.cps.size) Pv h0 hz hi (λacc σ H w=>MU _) (λi acc σ H hlt w=>hlt)
  (λi v acc σ H H2 hlt w y=>by obtain⟨rfl,c,a,rfl⟩:=y;exact hs i c acc σ H2 a w) he
end
section
variable (P:NC)(w:NF)(K:Nr)(mg:Nz)(base:Heap)(CX:kc)
structure qb(k:Nat)(m:Str)(os:List (Addr×Sp)):Prop where
 ex:∀o∈os,∃ps,cn P w K mg base CX k o.1 m ps o.2
end
def vI(m:Str)(os:List (Addr×Sp))(E:XK)(ta:TE)(t:TA):TE:=λσ H Q=>ta σ H λx H1=>∃o∈os,∃a dx fs,x=.ref a/\H1 a=some (.ins o.1 dx fs)/\fs.lookup m=none /\
 t σ H1 λvs H2=>o.2 (x::(vs++[])) H2 Q E
section
variable {X:Cx}{CX:kc}{k:Nat}{os:List (Addr×Sp)}{E:XK}{m:Str}{pos apos:Pos}{e o:Expr}{es:NH}{t:TA}{ta:TE}
theorem AC{pl:Sem Bool}(c:qb X.prog X.w X.K X.mg X.base CX k m os)(hr:dv k X.A)(hx:dB CX X E)(he:PE X o ta)(ha:PA X (e::es) t)
  (hst:autoParam (starEach (e::es) X.env=(false,eval e X.env)::starEach es X.env) zz0._auto_1) (hpl:autoParam ((backTo pos (starEach es X.env)).any (·.1)=false) zz0._auto_1)
  (ht:autoParam (eval (.Call (.Attribute o m apos) (e::es) [] pos) X.env=(do
   let ov <- eval o X.env
   standAt apos.atName
   let (f,first) <- holding [ov] (getMethod ov m pl)
   callWith pos f first (backTo pos (starEach (e::es) X.env)) (backToKw pos (keywordEach [] X.env)))) zz0._auto_1) :
  PE X (.Call (.Attribute o m apos) (e::es) [] pos) (vI m os E ta t):=by
 intro b s σ H Q I h;refine PySem.W.methodCall_KW (pl:=pl) (bZ (he b s σ H _ I h) λu p ⟨x,L,n,v,y,B,a,dx,fs,ex,D,l,q⟩=>?_) ht;subst ex;obtain rfl:u=Value.ref a:=v;obtain⟨ps,G⟩:=c.ex y B;obtain⟨f,fd,F,J,g,C⟩:=G.ex;refine g_ n D J g l ?_;refine PySem.W.callWith_K (first:=[.ref a]) (h₀:=X.base) I.ok.mod.kin g.kp (bZ (ha pos b p σ L _ n q) λus s2 ⟨vs,H2,j,r,w⟩=>⟨j.kIn,?_⟩) hst hpl;exact oA (us:=.ref a::us) (vs:=.ref a::vs) F hr C .nil hx j (.cons rfl r) w
theorem xf{pl:Sem Bool}(c:qb X.prog X.w X.K X.mg X.base CX k m os)(hr:dv k X.A)(hx:dB CX X E)(he:PE X o ta)
  (ht:autoParam (eval (.Call (.Attribute o m apos) [] [] pos) X.env=(do
   let ov <- eval o X.env
   standAt apos.atName
   let (f,first) <- holding [ov] (getMethod ov m pl)
   callWith pos f first (backTo pos (starEach [] X.env)) (backToKw pos (keywordEach [] X.env)))) zz0._auto_1) :
  PE X (.Call (.Attribute o m apos) [] [] pos) (vI m os E ta vR):=by
 intro b s σ H Q I h;refine PySem.W.methodCall_KW (pl:=pl) (bZ (he b s σ H _ I h) λu s1 ⟨x,H1,e,j,n,p,a,dx,fs,ex,v,l,q⟩=>?_) ht;subst ex;obtain rfl:u=Value.ref a:=j;obtain⟨ps,w⟩:=c.ex n p;obtain⟨f,fd,F,y,g,r⟩:=w.ex;refine g_ e v y g l ?_;exact PySem.W.callWith_K0 (first:=[.ref a]) e.kIn g.kp (oA (us:=[.ref a]) (vs:=[.ref a]) F hr r .nil hx e (.cons rfl .nil) q)
end
structure fY(K:Nr)(C:Addr):Prop where
 cl:m8 K C
 ha:PySem.W.findIn K (.ref C) "__class__"=some (some (.builtin "object.__class__"))
 hn:PySem.W.specialIn K (.builtin "object.__class__") "__get__"=some (some (.builtin "getset_descriptor.__get__"))
 htk:PySem.W.takesIn K (.builtin "object.__class__")=some true
 hm:PySem.W.mroIn K C (.type "object")=some true
theorem fY.ty{K:Nr}{H:Hp}{fs:List (Str×V)}(i:fY K C)(e:H a=some (.ins C dx fs)):je K H (.ref a) (.ref C):=.ins e i.cl i.ha i.hn i.htk i.hm
section
variable {X:Cx}{es:NH}{t:TA}
theorem bJ{x j p}(hr:PA X es t):PA X (.Constant (.str x) j p::es) (r_ (tC (.str x)) t):=aa rf hr rfl
theorem aI{x j p}(hr:PA X es t):PA X (.Constant (.int x) j p::es) (r_ (tC (.int x)) t):=aa ai hr rfl
end
end L2
namespace PyProof.Rows
open PySem PySem.Spec PySem.Builtin PySem.Builtin.Str
end PyProof.Rows
namespace L2
open PySem PySem.Spec PyProof.Rows QL
section
variable {X:Cx}{pins:Nt}{σ:St}{H:Hp}{s:Nv}{a:Addr}{kvs:List (dm×V)}{k:dm}{u r:Value}{d:V}{A:NE}{E:Nq}
theorem Fv{Q:Nq}(I:Inv X pins σ H s)(e:H a=some (.dK kvs))(ry:bv (kV k) u)(rd:bv d r)(hl:kvs.length<sizeLine)
  (h1:∀v w' s',cz kvs k=some v->Inv X pins σ H s'->bv v w'->Q w' s') (h2:cz kvs k=none->∀s',Inv X pins σ (aC H a (.dK (cN kvs k d))) s'->Q r s') :
  wpAny (model X.prog X.w) A (call (.builtin "dict.setdefault") [.ref a,u,r]) Q E s:=by
 obtain⟨z,l,vs,c,m⟩:=EZ I.hok e;have n:vs.length<=sizeLine:=by rw[<- c.length];exact z
 have j:(cN kvs k d).length<=sizeLine:=by have:=ic kvs k d;omega
 refine call_meetsIn PySem.F.slot_dict_setdefault m.typeIs PySem.F.entry_dict_setdefault (PySem.F.args_dict_setdefault_3 _ _ _) (kt_meets_setdefault (cO X.prog X.w) a (tV ry) l r) ⟨vs,m,n,λv o=>?_,λx B g p=>?_⟩
 ·have q:=c.val k
  rw[o]at q;cases b:cz kvs k with
  |none=>rw[b]at q;exact False.elim q
  |some v0=>rw[b]at q;exact h1 v0 v _ b (I.tok _) q
 ·have q:=c.val k
  rw[x]at q;have b:cz kvs k=none:=by
   cases b:cz kvs k with
   |none=>rfl
   |some v0=>rw[b]at q;exact False.elim q
  have y:∃q,B.get? a=some q:=let ⟨q,_,_,hq,_⟩:=g;⟨q,hq⟩
  exact h2 b _ (qv I (by rw[e];exact True.intro) p y (Ai j l (c.put k rd) g))
end
def xV(td ty tx:TE):TE:=λσ H Q=>td σ H λx H1=>∃a,x=.ref a/\J1 H1 a/\ty σ H1 λy H2=>tx σ H2 λz H3=>∃kvs k,H3 a=some (.dK kvs)/\y=kV k/\kvs.length<sizeLine /\
 (∀v,cz kvs k=some v->Q v H3)/\(cz kvs k=none->Q z (aC H3 a (.dK (cN kvs k z))))
section
variable {X:Cx}{o e f:Expr}{apos cpos:Pos}{td ty tx:TE}
theorem r8(ho:PE X o td)(he:PE X e ty)(hf:PE X f tx)(m:M2 X o "setdefault" apos e f cpos):PE X (.Call (.Attribute o "setdefault" apos) [e,f] [] cpos) (xV td ty tx):=by
 intro b s σ H Q I h;refine wpAny_Call_method m.base m.few m.line PySem.F.plainAttrs_dict PySem.F.slot_dict_setdefault PySem.F.type_dict_setdefault (bZ (ho b s σ H _ I h) λu w ⟨x,H1,l,C,a,U,d,J⟩=>?_);subst U;obtain rfl:u=Value.ref a:=C;obtain⟨p,n,_⟩:=G8 l d;refine⟨p,n,?_⟩;rw[m.trees];refine Calls.callWith_builtin rfl (Calls.evalArgs_plain (Calls.spliced_cons (bZ (he b w σ H1 _ l J) λiv r ⟨y,H2,Z,B,G⟩=>
  Calls.spliced_cons (bZ (hf b r σ H2 _ Z G) λfv s3 ⟨z,H3,Y,j,kvs,k,O,T,c,S,R⟩=>Calls.spliced_nil ?_))))
 subst T;exact Fv Y O B j c (λv w' q L g D=>⟨v,H3,g,D,S v L⟩) λM q g=>⟨z,_,g,j,R M⟩
end
section
variable {K:Type}[DecidableEq K]
def il(σ:List K)(v:K):List K:=if v∈σ then σ else σ++[v]
def met(l:List K):List K:=l.foldl il []
theorem xI(σ:List K)(v k:K):decide (k∈il σ v)=(decide (k∈σ)||decide (k=v)):=by
 unfold il
 by_cases h:v∈σ
 ·rw[q07 h]
  by_cases e:k=v
  ·subst e;simp[h]
  ·simp[e]
 ·rw[q06 h]
  simp[MK]
theorem pP(σ:List K)(v:K):(il σ v).length=if decide (v∈σ) then σ.length else σ.length+1:=by
 unfold il
 by_cases h:v∈σ<;>simp[h]
theorem x_(l:List K)(v:K):met (l++[v])=il (met l) v:=by unfold met;rw[List.foldl_append];rfl
theorem AY:∀(l σ:List K),(l.foldl il σ).length<=σ.length+l.length
 | [],σ=>MU _
 |v::l,σ=>by
  have h:=AY l (il σ v);have e:=pP σ v;rw[List.foldl_cons,MI]
  split at e<;>omega
theorem Ez(n:Nat)(l:List K)(h:l.length=n):(met l).length<=n:=by
 have:=AY l [];rw[<- h];unfold met;simpa using this
end
section
variable {prog:NC}{w:NF}{K:Type}[DecidableEq K]{knd:KeyKind prog w K}{A:NE}{R:Result->Shared->Prop}{I:Addr}{fp wr:Ny}{G:Array GenState->Array GenState->Prop}{n:Nat}{P:Nat->Value->Prop}{St:Nat->Shared->Prop}
theorem F6(W:WalksS prog w A.in1 I fp wr G n P St)(S:Addr)(hSf:S∉fp)(l:List K)(hl:l.length=n)
  (hval:∀i v,P i v->∃k,l[i]?=some k/\knd.is k v=true/\v.scannable=true) (hb:n+1<scanBound) :
  ∀(k i:Nat) (s:Nv),n-i=k->i<=n->St i s ->
   s.heap.SetOf knd S (λk'=>decide (k'∈met (l.take i))) (met (l.take i)).length ->
   (∀s',Moved (S::wr) G s s'->s'.heap.SetOf knd S (λk'=>decide (k'∈met l)) (met l).length->R (.ok (.ret .none)) s') ->
   codeAny (model prog w) A (.builtin "set.update.loop" ⟨[.ref S,.ref I],[]⟩) R s:=by
 have B:S∉wr:=λh=>hSf (W.sub _ h);have a:∀b∈wr,b∈S::wr:=λb hb=>MN _ hb;intro k
 induction k with
 |zero=>
  intro i s hk hi c D Z;have O:i=n:=by omega
  subst O;rw[<- hl,M']at D;refine codeAny_builtin F.entry_set_update_loop ?_;rw[Around.under_plainId F.plain_set_update_loop _];show wpAny _ A.in1 (pyNext (.ref I) >>= _) _ _ s;refine q04 (W.done s _ _ c λs' r=>?_);show wpAny _ A.in1 (ret Value.none) _ _ s';refine q05 (Z s' (r.mono a) ?_);obtain⟨o,es,ep,t,M,cy⟩:=D;exact⟨o,es,ep,t,r.heap S _ B M,cy⟩
 |succ k ih=>
  intro i s hk hi c D Z;have u:i<n:=by omega
  refine codeAny_builtin F.entry_set_update_loop ?_;rw[Around.under_plainId F.plain_set_update_loop _];show wpAny _ A.in1 (pyNext (.ref I) >>= _) _ _ s;refine q04 (W.item i s _ _ u c λv s' hP m r=>?_);obtain⟨j,x,y,L⟩:=hval i v hP;have Y:s'.heap.SetOf knd S (λk'=>decide (k'∈met (l.take i))) (met (l.take i)).length:=by
   obtain⟨o,es,ep,tb,M,cy⟩:=D;exact⟨o,es,ep,tb,r.heap S _ B M,cy⟩
  show wpAny _ A.in1 (holding [v] (setAdd S v) >>= _) _ _ s';refine q04 (q0T ?_);unfold setAdd;refine q0T ?_;refine q04 (knd.pyHash (k:=j) y ?_);have g:(met (l.take i)).length+1<scanBound:=by have:=Ez i (l.take i) (by rw[Na];omega);omega
  refine wpAny_setAddHashed_of (knd:=knd) (s:={s' with toks:=s'.toks+1}) y L Y g λh' p U=>?_;have ht:l.take (i+1)=l.take i++[j]:=by rw[q0D,x];rfl
  have T:h'.SetOf knd S (λk'=>decide (k'∈met (l.take (i+1)))) (met (l.take (i+1))).length:=
   SetOf_congr U (λk'=>by rw[ht,x_,xI]) (by rw[ht,x_,pP])
  refine q05 ⟨plainId_quiet F.plain_set_update_loop _,ih (i+1) _ ⋯ u (W.frame _ s' _ _ m (Nat.le_succ _) λb hb o e=>?_) T λJ q C=>?_⟩
  ·rw[p.2 b (λh:b=S=>hSf (by rw[<- h];exact hb))];exact e
  ·refine Z J (Moved.trans W.gtrans ((r.mono a).then_heap (Nat.le_succ _) λb o hb e=>?_) q) C
   rw[p.2 b (λh:b=S=>hb (by rw[h];exact q0B))];exact e
end
def dy(z:Str):List Str:=z.cps.toList.map λc=>(⟨#[c]⟩:Str)
section
variable {prog:NC}{w:NF}{A:NE}{E:Nq}{s:Nv}
def Fs(s:Nv)(led:Bool):Shared:={s with heap:=s.heap.push {cls:=.type "set",dict:=none,data:=.set #[] 0 (.fresh 0 0 led)} }
set_option maxHeartbeats 3200000 in
theorem va{v:Value}{R:Heap->Nat->Prop}{Q:Nq}
  (hi:∀led,(Fs s led).TypeIs (.ref s.heap.objs.size) "set"->codeAny (model prog w) A.in1 (.call (.builtin "set.__init__") {pos:=[.ref s.heap.objs.size,v]})
   (wants (λr s₂=>r=.none/\∃h' tk,s₂={s with heap:=h',toks:=tk}/\R h' tk) E) (Fs s led))
  (h:∀(h':Heap) (tk:Nat),R h' tk->Q (.ref s.heap.objs.size) {s with heap:=h',toks:=tk}) :
  wpAny (model prog w) A (call (.type "set") [v]) Q E s:=by
 obtain⟨c,tl,hmro⟩:=PySem.F.called_set.mro;have hmade:=PySem.F.called_set.made;have hsub:=PySem.F.called_set.sub;refine wpAny_call (codeAny_of_tree ?_);show wpAny _ _ (callAny (.type "set") _) _ _ _;refine q05 ⟨Code.quiet_builtin _ (by decide +kernel),codeAny_builtin PySem.F.entry_type_call ?_⟩;rw[Around.under_plain (weight_type_call_type "set" [v] []) rfl];have h1:=PySem.F.called_set.notType;have h2:=PySem.F.called_set.canCreate;have hct:=PySem.F.typeCall_set_1 v
 repeat (any_goals (first | with_reducible assumption | with_reducible refine q05 ?_ | with_reducible refine q04 ?_ | with_reducible refine q0T ?_ | with_reducible refine wpAny_of_eq (by assumption) ?_ | with_reducible refine wpAny_isInstance (by assumption) (by assumption) ?_ | with_reducible refine wpAny_specialOf (by assumption) (by assumption) ?_ | with_reducible refine wpAny_call ?_ | ((with_reducible apply wpAny_ite_false);focus (rfl;done)) | wp_delta))
 refine codeAny_mono (code_set_new_1 v (E:=E) (Q₁:=λobj b=>∃led:Bool,obj=.ref s.heap.objs.size/\b=Fs s led) λled=>⟨led,rfl,rfl⟩) λr b hr=>?_;cases r with
 |error e=>exact hr
 |ok fl=>
  cases fl with
  |ret obj=>
   obtain⟨led,rfl,rfl⟩:=hr;have j:(Fs s led).TypeIs (.ref s.heap.objs.size) "set":=⟨_,MD _ rfl,rfl⟩;have hli:=PySem.F.called_set.init.lookup;have hbi:=PySem.F.called_set.init.bind (.ref s.heap.objs.size)
   repeat (any_goals (first | with_reducible assumption | with_reducible refine q05 ?_ | with_reducible refine q04 ?_ | with_reducible refine q0T ?_ | with_reducible refine wpAny_of_eq (by assumption) ?_ | with_reducible refine wpAny_isInstance (by assumption) (by assumption) ?_ | with_reducible refine wpAny_specialOf (by assumption) (by assumption) ?_ | with_reducible refine wpAny_call ?_ | ((with_reducible apply wpAny_ite_false);focus (rfl;done)) | wp_delta))
   refine codeAny_mono (hi led j) λg s₂ a=>?_;cases g with
   |error e=>exact a
   |ok fl₂=>
    cases fl₂ with
    |ret r=>
     obtain⟨rfl,h',tk,rfl,k⟩:=a
     repeat (any_goals (first | with_reducible assumption | with_reducible refine q05 ?_ | with_reducible refine q04 ?_ | with_reducible refine q0T ?_ | with_reducible refine wpAny_of_eq (by assumption) ?_ | with_reducible refine wpAny_isInstance (by assumption) (by assumption) ?_ | with_reducible refine wpAny_specialOf (by assumption) (by assumption) ?_ | with_reducible refine wpAny_call ?_ | ((with_reducible apply wpAny_ite_false);focus (rfl;done)) | wp_delta))
     exact h _ _ k
    |_=>exact a.elim
  |_=>exact hr.elim
theorem tq{x:Str}{t:Tok}{Q:Nq}(hh:A.handled=none)(hb:x.cps.size+1<scanBound)
  (h:∀(h':Heap) (tk:Nat),h'.SetOf (strKind prog w) s.heap.objs.size (λk'=>decide (k'∈met (dy x))) (met (dy x)).length ->
   (∀b o,s.heap.get? b=some o->h'.get? b=some o)->Q (.ref s.heap.objs.size) {s with heap:=h',toks:=tk}) :
  wpAny (model prog w) A (call (.type "set") [.str x t]) Q E s:=by
 refine va (R:=λh' _=>h'.SetOf (strKind prog w) s.heap.objs.size (λk'=>decide (k'∈met (dy x))) (met (dy x)).length/\∀b o,s.heap.get? b=some o->h'.get? b=some o)
  (λa r=>?_) λh' tk hr=>h h' tk hr.1 hr.2
 refine codeAny_call_builtin PySem.F.called_set.init.plain PySem.F.entry_set_init (check_set_init_1 r ?_);unfold Fs at r ⊢;have D:(s.heap.push {cls:=.type "set",dict:=none,data:=.set #[] 0 (.fresh 0 0 a)}).get? s.heap.objs.size=some {cls:=.type "set",dict:=none,data:=.set #[] 0 (.fresh 0 0 a)}:=MD _ rfl;have hsls:=PySem.F.sub_str_set;have hslf:=PySem.F.sub_str_frozenset;have hne:(Value.type "str" == Value.type "dict")=false:=by decide
 unfold Builtin.«set.__init__» noKeywords Builtin.Frozenset.updateFrom;generalize p:pyIter=PI
 wp_walk
 subst p;refine wpAny_pyIter_str λo St W l=>?_;refine q04 (wpAny_runValue ?_);have m:s.heap.objs.size∉[(s.heap.push {cls:=.type "set",dict:=none,data:=.set #[] 0 (.fresh 0 0 a)}).objs.size]:=by
  rw[Heap.size_push];simp only[Mz]
  exact MQ (M7 _)
 refine F6 (knd:=strKind prog w) ((W _ (by simp[hh])).toS) s.heap.objs.size m (dy x) (by simp[dy])
  (λi v ⟨c,u,C,q⟩=>⟨⟨#[c]⟩,by unfold dy;rw[MA,Array.getElem?_toList,C];rfl,by rw[q];exact strKind_is _ _ _ _,by rw[q];rfl⟩) hb (x.cps.size-0) 0 _ ⋯ (MV _) l ?hS0 ?hR
 case hS0=>
  exact SetOf_congr ((setObjOf_fresh (knd:=strKind prog w) a).setOf (Mx _ D) (by unfold scanBound;omega)) (λ_=>rfl) rfl
 case hR=>
  intro y g n;obtain⟨h',G,M,j,k⟩:=y;have J:G=s.gens:=g.gens;have L:M=s.drawn:=g.drawn;have I:k=s.os:=g.os;subst J;subst L;subst I
  show wpAny _ _ _ _ _ _;refine q05 ?_;show wpAny _ _ (ret Value.none) _ _ _;refine q05 ⟨rfl,h',j,rfl,n,λb B e=>?_⟩;have hb:=MX e;refine g.heap b B ?_ (Mx _ (Mx _ e));simp only[MM,List.not_mem_nil,or_false,not_or,Heap.size_push];exact⟨MQ hb,MQ (Nat.lt_succ_of_lt hb)⟩
end
def wt(t:TE):TE:=λσ H Q=>t σ H λx H1=>∃z,x=.str z/\z.cps.size+1<scanBound/\Q (.int (met (dy z)).length) H1
section
variable {X:Cx}{e:Expr}{t:TE}{p p2 pos pos2:Pos}
theorem Bw(hc:X.calm=true)(ha:PE X e t)(g1:Gl X "len")(m1:X.mg "len"=none)(g2:Gl X "set")(m2:X.mg "set"=none)
  (he1:autoParam (starEach [.Call (.Name "set" p2) [e] [] pos2] X.env=[(false,eval (.Call (.Name "set" p2) [e] [] pos2) X.env)]) zz0._auto_1)
  (he2:autoParam (starEach [e] X.env=[(false,eval e X.env)]) zz0._auto_1) :
  PE X (.Call (.Name "len" p) [.Call (.Name "set" p2) [e] [] pos2] [] pos) (wt t):=by
 intro a s σ H Q I h;have m:bootBuiltins "len"=some (.builtin "len"):=by decide +kernel
 have k:bootBuiltins "set"=some (.type "set"):=by decide +kernel
 refine wpAny_Call_Name_kw (fP I g1 m1 m ?_);refine PyProof.Rows.callWith_builtin1 ?_ he1 rfl;rw[he1];show wpAny _ _ (spliced [(false,eval (.Call (.Name "set" p2) [e] [] pos2) X.env)]) _ _ _;refine Calls.spliced_cons ?_;refine wpAny_Call_Name_kw (fP (I.tok _) g2 m2 k ?_);refine PyProof.Rows.callWith_type1 ?_ he2 rfl;rw[he2];show wpAny _ _ (spliced [(false,eval e X.env)]) _ _ _;refine Calls.spliced_cons (bZ (ha a _ σ H _ (I.tok _) h) λu s1 ⟨x,B,y,j,z,w,c,q⟩=>Calls.spliced_nil ?_);subst w;obtain⟨tk,rfl⟩:=j;refine tq (I.ok.hd hc) c λh' tk' v n=>Calls.spliced_nil ?_;obtain⟨o,l,b,es,ep,tb,hd,_,_,g,r⟩:=v.objOf;have hle:=Ez z.cps.size (dy z) (by simp[dy]);have hb:z.cps.size<4096:=by unfold scanBound at c;omega
 refine call_len_set l b hd r (by rw[g];have:((4096:Nat):Int)<2^63:=nofun;omega) ?_;rw[g];exact⟨.int _,B,(y.kept (t':=_) n),⟨_,rfl⟩,q⟩
end
abbrev NT:=List (Str×Addr×List Nat)
def yn(t:NT):List (dm×V):=t.map λx=>(Sum.inr x.1,V.ref x.2.1)
def yo(ns:Nu):List V:=ns.map fun(n:Nat)=>V.int (n:Int)
structure dG(H:Hp)(p:Addr)(t:NT):Prop where
 dict:H p=some (.dK (yn t))
 list:∀x∈t,H x.2.1=some (.lst (yo x.2.2))
 apart:(t.map (·.2.1)).Nodup
theorem dG.grow{H':Hp}{t:NT}(N:dG H p t)(k:∀a o,H a=some o->H' a=some o):dG H' p t:=⟨k _ _ N.dict,λx hx=>k _ _ (N.list x hx),N.apart⟩
theorem yB(z:Str):∀t:NT,cz (yn t) (.inr z)=(t.find? λx=>decide (x.1=z)).map λx=>V.ref x.2.1
 | []=>rfl
 |x::t=>by
  have ih:=yB z t;unfold yn at ih ⊢;rw[M4,List.find?_cons]
  by_cases e:x.1=z
  ·rw[c8 (by rw[e])];simp[e]
  ·rw[c5 (λh=>e (Sum.inr.inj h)),ih];simp[e]
theorem dG.new{t:NT}{z:Str}(N:dG H p t)(hl:H l=none)(hz:cz (yn t) (.inr z)=none) :
  dG (aC (aC H l (.lst [])) p (.dK (cN (yn t) (.inr z) (.ref l)))) p (t++[(z,l,[])]):=by
 have g:p≠l:=λe=>by have:=N.dict;rw[e,hl]at this;exact nomatch this
 have c:∀x∈t,x.2.1≠l/\x.2.1≠p:=λx c=>by
  have q:=N.list x c
  constructor
  ·intro e;rw[e,hl]at q;exact nomatch q
  ·intro e;rw[e,N.dict]at q;exact nomatch q
 refine⟨?_,λx h=>?_,?_⟩
 ·rw[ad,rp _ hz];unfold yn;rw[MJ];rfl
 ·rcases MK.mp h with h | h
  ·rw[aq (c x h).2,aq (c x h).1];exact N.list x h
  ·rw[Mz.mp h,aq (Ne.symm g),ad];rfl
 ·rw[MJ]
  refine List.nodup_append.mpr ⟨N.apart,by simp,λa k b j=>?_⟩;obtain⟨x,h1,rfl⟩:=Nf.mp k;rw[List.map_singleton]at j;rw[Mz.mp j];exact(c x h1).1
theorem dG.put{t:NT}{i k:Nat}{x:Str×Addr×List Nat}(N:dG H p t)(hi:t[i]?=some x) :
  dG (aC H x.2.1 (.lst (yo (x.2.2++[k])))) p (t.set i (x.1,x.2.1,x.2.2++[k])):=by
 have m:x∈t:=MB hi;have l:p≠x.2.1:=λe=>by have:=N.list x m;rw[<- e,N.dict]at this;exact nomatch this
 have a:i<t.length:=(Mw.mp hi).1;have n:yn (t.set i (x.1,x.2.1,x.2.2++[k]))=yn t:=by
  unfold yn;apply List.ext_getElem?;intro j;rw[MA,MA,List.getElem?_set]
  by_cases e:i=j
  ·subst e;rw[q07 rfl,q07 a,hi];rfl
  ·rw[q06 e]
 have o:(t.set i (x.1,x.2.1,x.2.2++[k])).map (·.2.1)=t.map (·.2.1):=by
  apply List.ext_getElem?;intro j;rw[MA,MA,List.getElem?_set]
  by_cases e:i=j
  ·subst e;rw[q07 rfl,q07 a,hi];rfl
  ·rw[q06 e]
 refine⟨by rw[aq l,n];exact N.dict,λy g=>?_,by rw[o];exact N.apart⟩;obtain⟨j,b⟩:=List.mem_iff_getElem?.mp g;rw[List.getElem?_set]at b
 by_cases e:i=j
 ·rw[q07 e,q07 a]at b
  cases b;exact ad
 ·rw[q06 e]at b
  have c:y.2.1≠x.2.1:=by
   intro q;have h1:(t.map (·.2.1))[i]?=some x.2.1:=by rw[MA,hi];rfl
   have h2:(t.map (·.2.1))[j]?=some x.2.1:=by rw[MA,b];simp[q]
   exact e ((List.getElem?_inj (Mw.mp h1).1 N.apart).mp (h1.trans h2.symm))
  rw[aq c];exact N.list y (MB b)
def kl(t:NT):List (Str×List Nat):=t.map λx=>(x.1,x.2.2)
def b9(m:List (Str×List Nat))(z:Str):List (Str×List Nat):=if z∈m.map (·.1) then m else m++[(z,[])]
theorem Fe{t:NT}{z:Str}{v:V}(h:cz (yn t) (.inr z)=some v):∃(i:Nat) (x:Str×Addr×List Nat),t[i]?=some x/\x.1=z/\v=.ref x.2.1:=by
 rw[yB]at h;cases a:t.find? (λx=>decide (x.1=z)) with
 |none=>rw[a]at h;exact nomatch h
 |some x=>
  rw[a]at h;have c:V.ref x.2.1=v:=q0P h;obtain⟨i,e⟩:=List.mem_iff_getElem?.mp (List.mem_of_find?_eq_some a);have b:=List.find?_some a;exact⟨i,x,e,of_decide_eq_true b,c.symm⟩
theorem Ao(t:NT):(kl t).map (·.1)=t.map (·.1):=by unfold kl;rw[ML];rfl
theorem Ho{t:NT}{z:Str}(h:cz (yn t) (.inr z)=none):¬ z∈(kl t).map (·.1):=by
 intro m;rw[Ao]at m;obtain⟨x,a,e⟩:=Nf.mp m;refine x6 h (Nf.mpr ⟨(.inr x.1,.ref x.2.1),Nf.mpr ⟨x,a,rfl⟩,?_⟩);show(Sum.inr x.1:dm)=Sum.inr z;rw[e]
theorem dG.setdef{t:NT}{z:Str}{Q:VK}(N:dG H p t)(hl:H l=none)(hn:t.length<sizeLine)
  (h:∀(H':Hp) (t':NT) (i:Nat) (x:Str×Addr×List Nat),dG H' p t'->t'[i]?=some x->x.1=z->kl t'=b9 (kl t) z->(∀y∈t',y∈t\/y.2.1=l)->(∀a o,a≠p->H a=some o->H' a=some o)->Q (.ref x.2.1) H') :
  ∃kvs k,aC H l (.lst []) p=some (.dK kvs)/\V.str z=kV k/\kvs.length<sizeLine/\(∀v,cz kvs k=some v->Q v (aC H l (.lst []))) /\
   (cz kvs k=none->Q (.ref l) (aC (aC H l (.lst [])) p (.dK (cN kvs k (.ref l))))):=by
 have hpl:p≠l:=λe=>by have:=N.dict;rw[e,hl]at this;exact nomatch this
 have gr:∀a o,H a=some o->aC H l (.lst []) a=some o:=λa o e=>by
  rw[aq (λq=>by rw[q,hl]at e;exact nomatch e)];exact e
 refine⟨yn t,.inr z,gr _ _ N.dict,rfl,by unfold yn;rw[My];exact hn,λv m=>?_,λc=>?_⟩
 ·obtain⟨i,x,j,g,rfl⟩:=Fe m
  refine h _ t i x (N.grow gr) j g ?_ (λy b=>.inl b) λa o _ e=>gr a o e;have n:z∈(kl t).map (·.1):=by rw[Ao];exact Nf.mpr ⟨x,MB j,g⟩
  unfold b9;rw[q07 n]
 ·refine h _ (t++[(z,l,[])]) t.length (z,l,[]) (N.new hl c) (by simp) rfl ?_ (λy b=>(MK.mp b).imp id λq=>by rw[Mz.mp q]) λa o r e=>by rw[aq r];exact gr a o e
  unfold b9;rw[q06 (Ho c)];unfold kl;rw[MJ];rfl
theorem FS{t:NT}{i:Nat}{x:Str×Addr×List Nat}(k:Nat):kl (t.set i (x.1,x.2.1,x.2.2++[k]))=(kl t).set i (x.1,x.2.2++[k]):=by
 unfold kl;rw[List.map_set]
theorem nO{m:List (Str×List Nat)}{z:Str}(h:(m.map (·.1)).Nodup):((b9 m z).map (·.1)).Nodup:=by
 unfold b9
 by_cases e:z∈m.map (·.1)
 ·rw[q07 e];exact h
 ·rw[q06 e,MJ]
  refine List.nodup_append.mpr ⟨h,by simp,λa g b c=>?_⟩;rw[List.map_singleton]at c;rw[Mz.mp c];exact λq=>e ((show a=z from q)▸g)
theorem AH{X:Cx}{e:Expr}{t:TA}{x:Str}{j:Nat}{p apos cpos:Pos}(ha:PA X [e] t)(hline:(apos.endLine==cpos.line)=true)(hs:starEach [e] X.env=[(false,eval e X.env)]) :
  PE X (.Call (.Attribute (.Constant (.str x) j p) "join" apos) [e] [] cpos) (Je X.K "str" (AK X.K) (tC (.str x)) t):=
 jO PySem.F.plainAttrs_str PySem.F.slot_str_join PySem.F.type_str_join FN rf ha rfl (by rw[hs];rfl) hline hs rfl
end L2
namespace QL
open PySem PySem.Spec PyProof.Rows
theorem HS:bootBuiltins "max"=some (.builtin "max"):=by decide +kernel
end QL
namespace L2
open PySem PySem.Spec PyProof.Rows
set_option tactic.hygienic true in
theorem qa.out{K:Nr}{bm:Nw}{nid:String}(c:qa K C bm nid):o7 K C bm nid:=by
 refine⟨?_⟩;have q:=c.exc;unfold PySem.W.excIn at q;unfold PySem.W.excOut
 revert q
 cases K.lookup C with
 |none=>exact λq=>q
 |some ob=>
  obtain⟨ty,dd,data,sl⟩:=ob;intro q
  split at q
  ·rename_i e
   cases e
   split at q
   ·rename_i hm hs
    simp only[hm,hs];simp only[q0L]at q ⊢;obtain⟨⟨⟨⟨⟨a1,a2⟩,a3⟩,a4⟩,a5⟩,_⟩:=q;exact⟨⟨⟨⟨a1,a2⟩,a3⟩,a4⟩,a5⟩
   ·cases q
  ·cases q
section
variable {X:Cx}{e:Expr}{tx:TX}{i:Nat}{n x:Str}{D:Addr}{bmD:Nw}{nD:String}{b₀:Stmt}{suite:List Stmt}{epos pos hpos np:Pos}{ts:Addr->TS}
def wF(K:Nr)(D:Addr)(tx:TX)(i:Nat)(ts:Addr->TS):TS:=λDe σ H=>
 tx σ H (λ_ H1=>De.nx σ H1) (λcls od H'=>∃C bm nid,cls=.ref C/\o7 K C bm nid/\En K C D/\∀ea,H' ea=none ->
  ts ea {nx:=λσ2 H2=>De.nx (σ2.set i none) H2,rt:=De.rt,bk:=λσ2 H2=>De.bk (σ2.set i none) H2,ct:=λσ2 H2=>De.ct (σ2.set i none) H2} (σ.set i (some (.ref ea))) (aC H' ea (xo ea (.ref C) od)))
theorem yu{cp:Value->Prop}(hN:X.N.Nodup)(hst:X.stack=X.env::X.outer)(hfr:X.env.frame=some X.env.locals)(he:PX (IR cp X.prog X.w) X e tx)(hi:X.N[i]?=some n)(hk:X.env.kindOf n=some .local)(hgl:Gl X x)(hm:X.mg x=some (.ref D))(cD:o7 X.K D bmD nD)
  (hbase:bmD.contains (.type "BaseException")=true) (hs:∀ea,yf (X.held ea) (b₀::suite) (ts ea))
  (hd:autoParam ((x==("__debug__":Str))=false) zz2._auto_1) (hsw:autoParam (swapsWith e none epos.line X.env=pure false) zz0._auto_1) :
  PS X (.Try [.Expr e epos] [.ExceptHandler (some (.Name x np)) (some n) (b₀::suite) hpos] [] [] pos) (wF X.K D tx i ts):=by
 intro a s σ H De I h;refine wpAny_Try_except ?_;refine wpAny_execs_cons (wpAny_Expr_any ?_ I.quiet hsw);refine bZ (he a s σ H _ _ _ I h ?_) λv s1 ⟨y,H1,J,r1,q1⟩=>?_
 ·rintro H1 s1 ev s' J ⟨ea,cls,od,B,H',rfl,j,S,C,bm,nid,rfl,cC,un,O⟩
  have Y:jS cp B (X.env::X.outer) ea (.ref C) od .none s'.heap:=by rw[<- hst];exact j.fl
  refine GR (by rw[I.ok.frames,hst]) hfr Y λh4 g p=>?_;refine qt g λh5 k o=>?_;have J5:=J.caught j.toFly0 (by rw[hst];exact k) (p.trans o) S;refine wpAny_handleBy_cons (codeAny_handlers_test ?_) (by intro q;cases q);refine ig (J5.held ea) hgl hm ?_ hd;obtain⟨tl,N,nm,q,bs,hdct,sn,sub,ab,col,dd,k0,k1,k2,k3,k5,hC,T,dd1,cd1,sl1,U,w⟩:=cC.obj J5.kIn;obtain⟨tl',N',nm',q',bs',hdct',sn',sub',ab',col',dd',k0',k1',k2',k3',k5',hD,TD,_⟩:=cD.obj J5.kIn;obtain⟨dd2,cd2,sl2,c,b⟩:=un;rw[U]at c;cases c;rw[w]at b;obtain⟨ob,_,R,r,_⟩:=k.there;refine oO hC hD R r (TD.hasType hbase) b (codeAny_handlers_suite_as ?_);refine qt k λh6 Z L=>?_;have J6:=J.caught j.toFly0 (by rw[hst];exact Z) ((p.trans o).trans L) S;refine nS (v:=.ref ea) J6 hN hi (.inl hk) rfl (λs7 J7=>?_) (.inr hk);refine q0S (hs ea a s7 _ _ _ (J7.held ea) (O ea S)) (λfl s8 G=>?_) λ_ _ f=>f.elim;cases fl with
  |next=>obtain⟨σ',H2,m,q⟩:=G;exact k8 (v:=.non) (m.unheld I.ok.hd) hN hi hk λM l=>⟨_,_,l,q⟩
  |brk=>obtain⟨σ',H2,m,q⟩:=G;exact k8 (v:=.non) (m.unheld I.ok.hd) hN hi hk λM l=>⟨_,_,l,q⟩
  |cont=>obtain⟨σ',H2,m,q⟩:=G;exact k8 (v:=.non) (m.unheld I.ok.hd) hN hi hk λM l=>⟨_,_,l,q⟩
  |ret u=>obtain⟨v,σ',H2,m,rv,q⟩:=G;exact k8 (v:=.non) (m.unheld I.ok.hd) hN hi hk λM l=>⟨v,_,_,l,rv,q⟩
 ·exact wpAny_execs_nil (wpAny_execs_nil ⟨σ,H1,J,q1⟩)
end
end L2
namespace CtM
open PySem PySem.Builtin PySem.Builtin.Str QL SpM
theorem rO(c:Nat):∀(x:Nu) (rows:List (List Nat)),rows≠[]->(x.foldl (SpM.step c) rows).length=rows.length+x.count c
 | [],rows,_=>by simp
 |d::x,rows,h=>by
  have h1:SpM.step c rows d≠[]:=by unfold SpM.step;split<;>simp
  rw[List.foldl_cons,rO c x _ h1,List.count_cons];unfold SpM.step
  by_cases e:d=c
  ·rw[q07 e];subst e;simp;omega
  ·rw[q06 e]
   have:0<rows.length:=List.length_pos_iff.mpr h;simp[e];omega
end CtM
namespace L2
open PySem PySem.Spec PyProof.Rows QL
section
variable {K:Nr}{g:TG}{ti:TT}{te:TE}{σ:St}{H:Hp}{Q:List V->Hp->Prop}{α:Type}
theorem qy{as:List α}{f:α->Option V}{i:Nat}{x:α}(hx:as[i]?=some x):(as.take (i+1)).filterMap f=(as.take i).filterMap f++(f x).toList:=by
 rw[q0D,hx,List.filterMap_append];show _++List.filterMap f [x]=_;cases h:f x<;>simp[h]
theorem EU{as:List α}{f:α->Option V}(i:Nat):((as.take i).filterMap f).length<=as.length:=M5 (List.length_filterMap_le _ _) (by rw[Na];omega)
theorem jD{as:List α}(f:α->V):as.filterMap (λx=>some (f x))=as.map f:=by induction as with | nil=>rfl | cons x xs ih=>simp
theorem gL{as:List α}{emb:α->V}{f:α->Option V}(S:St->Prop)(h0:S σ)(hl:∀H',aE H H'->aT K H' a (as.map emb))(hn:as.length<=1000000)
  (hs:∀(i:Nat) x,as[i]?=some x->∀σ H' (N1:V->St->Hp->Prop) (N0:St->Hp->Prop),S σ->aE H H'->(∀v σ2 H2,f x=some v->aE H H2->S σ2->N1 v σ2 H2)->(∀σ2 H2,f x=none->aE H H2->S σ2->N0 σ2 H2) ->
   g (emb x) σ H' λσ2 H3=>ti σ2 H3 λb H4=>if b=true then te σ2 H4 λv H5=>N1 v σ2 H5 else N0 σ2 H4)
  (he:∀H',aE H H'->Q (as.filterMap f) H'):i4 (Fx K a) g ti te σ H Q:=by
 refine py (xs:=as.map emb) (λi c σ H'=>aE H H'/\c=(as.take i).filterMap f/\i<=as.length/\S σ) ⟨λ_ _ e=>e,rfl,MV _,h0⟩ ?_ ?_ ?_ ?_ ?_
 ·rintro i c σ H' ⟨_,rfl,_⟩
  have:=EU (as:=as) (f:=f) i;exact bf ⋯
 ·rintro i c σ H' ⟨_,_,h,_⟩
  rw[My];exact h
 ·rintro i c σ H' ⟨k,_⟩
  exact hl _ k
 ·rintro i x c σ H' l ⟨k,rfl,hi,n⟩
  have j:i<as.length:=by have:=(Mw.mp l).1;rwa [My]at this
  rw[MA,Mv j]at l;cases l;have m:as[i]?=some as[i]:=Mv j;refine hs i as[i] m σ H' (λv σ2 H5=>_) (λσ2 H4=>_) n k (λv σ2 H2 hf s2 hS2=>⟨s2,?_,j,hS2⟩) (λσ2 H2 hf s2 hS2=>⟨s2,?_,j,hS2⟩)
  ·rw[qy m,hf];rfl
  ·rw[qy m,hf];simp
 ·rintro c σ H' ⟨k,rfl,_⟩
  have e:(as.take (as.map emb).length).filterMap f=as.filterMap f:=by rw[My,M']
  rw[e];exact he _ k
theorem zP{as:List α}{emb:α->V}{f:Nat->α->Option V}(S:St->Prop)(h0:S σ)(hl:∀H',aE H H'->aT K H' a (as.map emb))(hn:as.length<=1000000)
  (hs:∀(i:Nat) x,as[i]?=some x->∀σ H' T (N1:V->St->Hp->Prop) (N0:St->Hp->Prop),S σ->aE H H'->H' T=none->(∀v σ2 H2,f i x=some v->aE H H2->S σ2->N1 v σ2 H2)->(∀σ2 H2,f i x=none->aE H H2->S σ2->N0 σ2 H2) ->
   g (.ref T) σ (aC H' T (.tup [.int (i:Int),emb x])) λσ2 H3=>ti σ2 H3 λb H4=>if b=true then te σ2 H4 λv H5=>N1 v σ2 H5 else N0 σ2 H4)
  (he:∀H',aE H H'->Q (as.zipIdx.filterMap λx=>f x.2 x.1) H'):i4 (IA K a) g ti te σ H Q:=by
 have m:as.zipIdx.length=as.length:=List.length_zipIdx;refine jI (J:=IA K a) (n:=as.length) (λi c σ H'=>aE H H'/\c=(as.zipIdx.take i).filterMap (λx=>f x.2 x.1)/\i<=as.length/\S σ) ⟨λ_ _ e=>e,rfl,MV _,h0⟩ ?_ ?_ ?_ ?_ ?_ ?_
 ·rintro i c σ H' ⟨_,rfl,_⟩
  have:=EU (as:=as.zipIdx) (f:=λx=>f x.2 x.1) i;exact bf ⋯
 ·rintro i c σ H' ⟨_,_,h,_⟩
  exact h
 ·rintro c σ H' ⟨k,_⟩
  exact⟨_,hl _ k,by rw[My];exact MU _⟩
 ·rintro i c σ H' j ⟨k,_⟩
  exact⟨_,emb as[i],hl _ k,by rw[MA,Mv j];rfl⟩
 ·rintro i x c σ H' H2 j ⟨k,rfl,hi,r⟩ ⟨T,y,rfl,q,rfl,l⟩
  have o:as[i]?=some as[i]:=Mv j;have l:=l _ (hl _ k);rw[MA,o]at l;cases l;have p:as.zipIdx[i]?=some (as[i],i):=by rw[List.getElem?_zipIdx,o];simp
  refine hs i as[i] o σ H' T (λv σ2 H5=>_) (λσ2 H4=>_) r k q (λv σ2 H2 hf s2 hS2=>⟨s2,?_,j,hS2⟩) (λσ2 H2 hf s2 hS2=>⟨s2,?_,j,hS2⟩)
  ·rw[qy p];simp only[hf];rfl
  ·rw[qy p];simp[hf]
 ·rintro c σ H' ⟨k,rfl,_⟩
  have e:(as.zipIdx.take as.length).filterMap (λx=>f x.2 x.1)=as.zipIdx.filterMap (λx=>f x.2 x.1):=by rw[<- m,M']
  rw[e];exact he _ k
theorem pM{n:Nat}{f:Nat->Option V}(S:St->Prop)(h0:S σ)(hn:n<=1000000)
  (hs:∀i,i<n->∀σ H' (N1:V->St->Hp->Prop) (N0:St->Hp->Prop),S σ->aE H H'->(∀v σ2 H2,f i=some v->aE H H2->S σ2->N1 v σ2 H2)->(∀σ2 H2,f i=none->aE H H2->S σ2->N0 σ2 H2) ->
   g (.int (0+(i:Int))) σ H' λσ2 H3=>ti σ2 H3 λb H4=>if b=true then te σ2 H4 λv H5=>N1 v σ2 H5 else N0 σ2 H4)
  (he:∀H',aE H H'->Q ((List.range n).filterMap f) H'):i4 (Dd 0 n) g ti te σ H Q:=by
 refine dE (lo:=0) (n:=n) (λi a σ H'=>aE H H'/\a=(List.range i).filterMap f/\i<=n/\S σ) ⟨λ_ _ e=>e,rfl,MV _,h0⟩ ?_ ?_ ?_ ?_
 ·rintro i a σ H' ⟨_,rfl,c,_⟩
  have:=List.length_filterMap_le f (List.range i);rw[q0G]at this;exact bf ⋯
 ·rintro i a σ H' ⟨_,_,h,_⟩
  exact h
 ·rintro i a σ H' c ⟨j,rfl,_,k⟩
  refine hs i c σ H' (λv σ2 H5=>_) (λσ2 H4=>_) k j (λv σ2 H2 hf s2 hS2=>⟨s2,?_,c,hS2⟩) (λσ2 H2 hf s2 hS2=>⟨s2,?_,c,hS2⟩)
  ·rw[q0J,List.filterMap_append];simp[hf]
  ·rw[q0J,List.filterMap_append];simp[hf]
 ·rintro a σ H' ⟨j,rfl,_⟩
  exact he _ j
end
end L2
namespace ThM
open PySem L2
def dD(ks:ND)(z:Str):List Str:=if z∈ks then ks else ks++[z]
theorem mem_addNew{ks:ND}{z y:Str}:y∈dD ks z↔y∈ks\/y=z:=by
 unfold dD
 split
 ·rename_i h
  exact⟨.inl,λq=>q.elim id λe=>e▸h⟩
 ·rw[MK,Mz]
section
variable {α:Type}(f:List α->List α)
def JF:Nat->List α->List α
 |0,s=>s
 |n+1,s=>f (JF n s)
variable {f}
end
abbrev NR:=Str×List Str
def Gz(ks:ND)(r:NR):List Str:=if(∀z∈r.2,z∈ks) then dD ks r.1 else ks
def EF(rs:List NR)(ks:ND):List Str:=rs.foldl Gz ks
theorem nd_len{ks ms:ND}(hn:ks.Nodup)(h:∀z∈ks,z∈ms):ks.length<=ms.length:=by
 induction ks generalizing ms with
 |nil=>exact MV _
 |cons k ks ih=>
  rw[q0X]at hn;have c:=h k q0B;have h1:=ih (ms:=ms.erase k) hn.2 λz b=>by
   have a:z≠k:=λe=>hn.1 (e▸b);exact(List.mem_erase_of_ne a).mpr (h z (MN _ b))
  have h2:=List.length_erase_of_mem c;have h3:=List.length_pos_of_mem c;rw[MI];omega
def HI(rs:List NR):List Str:=JF (EF rs) rs.length []
end ThM
namespace ThM
open PySem L2
theorem nY{y:Str}:∀(zs ks:ND),y∈zs.foldl dD ks↔y∈ks\/y∈zs
 | [],ks=>by simp
 |z::zs,ks=>by
  rw[List.foldl_cons,nY zs,mem_addNew,MM];exact⟨λh=>h.elim (λh=>h.elim .inl λe=>.inr (.inl e)) λh=>.inr (.inr h),λh=>h.elim (λh=>.inl (.inl h)) λh=>h.elim (λe=>.inl (.inr e)) .inr⟩
def Ey(ks:ND)(r:NR):List Str:=if r.1∈ks then r.2.foldl dD ks else ks
def Cf(rs:List NR)(ks:ND):List Str:=rs.foldl Ey ks
def IZ(ks:ND)(r:NR):Prop:=r.1∈ks/\∀z∈r.2,z∈ks
noncomputable instance (ks:ND)(r:NR):Decidable (IZ ks r):=by unfold IZ;infer_instance
def HQ(st:Str)(rs:List NR):List Str:=JF (Cf rs) rs.length [st]
def GL(rs:List NR)(r:NR):Bool:=decide (∀z∈r.2,z∈HI rs)
def Jx(rs:List NR):List NR:=rs.filter (GL rs)
def Js(st:Str)(rs:List NR):List Str:=HQ st (Jx rs)
def keep(st:Str)(rs:List NR)(r:NR):Bool:=decide (r.1∈Js st rs)&&GL rs r
end ThM
namespace L2
open PySem PySem.Spec PyProof.Rows
section
variable {X:Cx}{body:List Stmt}{h₀:ExceptHandler}{hs:List ExceptHandler}{tb:TS}{pos:Pos}
theorem xW(hb:yf X.nox body tb):PS X (.Try body (h₀::hs) [] [] pos) tb:=by
 intro a s σ H De I h;refine wpAny_Try_except ?_;refine q0S (hb a s σ H De (I.wish _) h) (λfl s1 q=>?_) λ_ _ f=>f.elim;have b:=SP.unwish q;cases fl with
 |next=>exact wpAny_execs_nil b
 |brk=>exact b
 |cont=>exact b
 |ret u=>exact b
theorem Az{ta:TE}{f:Str}{K:Nr}(hK:X.K=K)(he:PE X e ta)(hb:attributeBase e f X.env (eval e X.env)=eval e X.env):PE X (.Attribute e f pos) (F7 K ta f):=hK▸bN he hb
def kE(xs ys:List V):Bool:=(List.range (min xs.length ys.length)).all (λj=>match xs[j]?,ys[j]? with | some x,some y=>rE x y | _,_=>true)&&xs.length==ys.length
def HM(K:Nr):R2:=λx y H Q=>∃a b xs ys,x=.ref a/\y=.ref b/\aV K H a xs/\aV K H b ys/\xs.all jM=true/\ys.all jM=true/\Q (.bl (kE xs ys)) H
theorem DO(hu:X.A.units+64<cLine):br X (compareOp .Eq) (HM X.K):=by
 intro pins s σ H x y v u Q I rx ry h;obtain⟨a,b,m,k,rfl,rfl,T,S,fx,Z,q⟩:=h;cases rx;cases ry
 obtain⟨g,C,M,_⟩:=I.tuple T;obtain⟨c,B,L,_⟩:=I.tuple S;have R:=C.length;have O:=B.length
 have J:=SeqAt.RcAt.tuples (A:=X.A) (s:=s) (e:=λj=>match m[j]?,k[j]? with | some x,some y=>rE x y | _,_=>true) (show s.heap.IsTuple a g.toArray from M) (show s.heap.IsTuple b c.toArray from L) ⋯ (λj Y U=>by
  have w:j<g.length:=by simpa using Y
  have r:j<c.length:=by simpa using U
  have n:m[j]?=some m[j]:=Mv ⋯;have l:k[j]?=some k[j]:=Mv ⋯;obtain⟨w1,G,p⟩:=C.get n;obtain⟨w2,D,o⟩:=B.get l;rw[Mv w]at G;rw[Mv r]at D;cases G;cases D
  simp only[Ni,n,l];exact gR p o (Ng.mp fx _ (MB n)) (Ng.mp Z _ (MB l)))
 refine J _ _ _ _ ⟨.bl _,H,I,rfl,?_⟩;rw[ME,ME,<- R,<- O];exact q
end
section
variable {X:Cx}{es:NH}{t:TA}{te:TE}
end
end L2
namespace L2
open PySem PySem.Spec PyProof.Rows
end L2
namespace L2
open PySem PySem.Spec PyProof.Rows QL
section
variable {X:Cx}
theorem dv.units210{k:Nat}{A:NE}(r:dv (k+1) A):A.units+210<cLine:=by have:=r.un;omega
end
theorem aE.sqT{K:Nr}(e:aE H H')(h:aV K H a xs):aV K H' a xs:=by
 rcases h with(h | ⟨o,h⟩) | h
 ·exact .inl (.inl (e _ _ h))
 ·exact .inl (.inr ⟨o,e _ _ h⟩)
 ·exact .inr h
section
variable {K:Nr}{g:TG}{tb:TS}{D:iT}{σ:St}{H:Hp}
theorem DQ{xs:List V}(Pv:Nat->St->Hp->Prop)(h0:Pv 0 σ H)(hl:∀i σ H,i<=xs.length->Pv i σ H->aT K H a xs)
  (hs:∀i x σ H,i<xs.length->xs[xs.length-1-i]?=some x->Pv i σ H->g x σ H λσ2 H2=>tb {D with nx:=Pv (i+1),ct:=Pv (i+1),bk:=D.nx} σ2 H2) (hd:∀σ H,Pv xs.length σ H->D.nx σ H):vJ (IF K a xs.length) g tb D σ H:=by
 refine⟨λi m σ H=>Pv i σ H/\i<=xs.length/\m=xs.length+1-i,⟨_,h0,MV _,rfl⟩,?_⟩;rintro i m σ' H' ⟨w,c,rfl⟩;rcases Nat.lt_or_ge i xs.length with b | hge
 ·refine .inr ⟨⟨xs,xs[xs.length-1-i]'⋯,hl _ _ _ c w,b,Mv ⋯⟩,Pv (i+1),λσ2 H2 w2=>⟨xs.length+1-(i+1),⋯,w2,b,rfl⟩,λx H2 y=>?_⟩
  obtain⟨rfl,j⟩:=y;exact hs i x σ' H2 b (j xs (hl _ _ _ c w)) w
 ·have e:i=xs.length:=by omega
  subst e;exact .inl ⟨rfl,hd _ _ w⟩
end
def du(H H':Hp):Prop:=∀b xs,H b=some (.tup xs)->H' b=some (.tup xs)
theorem du.of(s:aE H H'):du H H':=λb xs h=>s b _ h
mutual
def bg(H:Hp):Dt->V->Prop
 | .int i,v=>v=.int i
 | .tup ds,v=>∃a xs,v=.ref a/\H a=some (.tup xs)/\aP H ds xs
 |_,_=>False
def aP(H:Hp):List Dt->List V->Prop
 | [],xs=>xs=[]
 |d::ds,xs=>∃x r,xs=x::r/\bg H d x/\aP H ds r
end
mutual
theorem bg.up(e:du H H'):∀(d:Dt) {v:V},bg H d v->bg H' d v
 | .int i,v,h=>by unfold bg at h ⊢;exact h
 | .tup ds,v,h=>by unfold bg at h ⊢;obtain⟨a,xs,r,hs,hd⟩:=h;exact⟨a,xs,r,e _ _ hs,aP.up e ds hd⟩
 | .non,v,h=>by unfold bg at h;exact h.elim
 | .bl b,v,h=>by unfold bg at h;exact h.elim
 | .str x,v,h=>by unfold bg at h;exact h.elim
 | .lst ds,v,h=>by unfold bg at h;exact h.elim
theorem aP.up(e:du H H'):∀(ds:List Dt) {xs:List V},aP H ds xs->aP H' ds xs
 | [],xs,h=>by unfold aP at h ⊢;exact h
 |d::ds,xs,h=>by unfold aP at h ⊢;obtain⟨x,r,e0,h1,h2⟩:=h;exact⟨x,r,e0,bg.up e d h1,aP.up e ds h2⟩
end
mutual
theorem bg.rd{K:Nr}:∀(d:Dt) {v:V},bg H d v->ql K H d v
 | .int i,v,h=>by unfold bg at h;unfold ql;exact h
 | .tup ds,v,h=>by unfold bg at h;unfold ql;obtain⟨a,xs,r,hs,hd⟩:=h;exact⟨a,xs,r,aV.of hs,aP.rd ds hd⟩
 | .non,v,h=>by unfold bg at h;exact h.elim
 | .bl b,v,h=>by unfold bg at h;exact h.elim
 | .str x,v,h=>by unfold bg at h;exact h.elim
 | .lst ds,v,h=>by unfold bg at h;exact h.elim
theorem aP.rd{K:Nr}:∀(ds:List Dt) {xs:List V},aP H ds xs->iS K H ds xs
 | [],xs,h=>by unfold aP at h;unfold iS;exact h
 |d::ds,xs,h=>by unfold aP at h;unfold iS;obtain⟨x,r,e0,h1,h2⟩:=h;exact⟨x,r,e0,bg.rd d h1,aP.rd ds h2⟩
end
theorem aP.cons{H:Hp}{d:Dt}{ds:List Dt}{x:V}{xs:List V}(h:bg H d x)(t:aP H ds xs):aP H (d::ds) (x::xs):=by unfold aP;exact⟨x,xs,rfl,h,t⟩
theorem aP.nil:aP H [] []:=by unfold aP;rfl
theorem aP.uncons{d:Dt}{ds:List Dt}{xs:List V}(h:aP H (d::ds) xs):∃x r,xs=x::r/\bg H d x/\aP H ds r:=by unfold aP at h;exact h
theorem aP.length:∀{ds:List Dt} {xs:List V},aP H ds xs->xs.length=ds.length
 | [],_,h=>by unfold aP at h;rw[h];rfl
 |d::ds,xs,h=>by
  obtain⟨x,r,rfl,_,h2⟩:=h.uncons;simp[aP.length h2]
theorem aP.app:∀{ds es:List Dt} {xs ys:List V},aP H ds xs->aP H es ys->aP H (ds++es) (xs++ys)
 | [],es,xs,ys,h,k=>by unfold aP at h;subst h;exact k
 |d::ds,es,xs,ys,h,k=>by
  obtain⟨x,r,rfl,h1,h2⟩:=h.uncons;exact aP.cons h1 (aP.app h2 k)
theorem bg.node{H:Hp}{i:Int}{ds:List Dt}{xs:List V}(h:H a=some (.tup (V.int i::xs)))(t:aP H ds xs):bg H (.tup (.int i::ds)) (.ref a):=by
 unfold bg;exact⟨a,_,rfl,h,aP.cons (by unfold bg;rfl) t⟩
theorem xv:∀{ns:List Int} {us:Nw},bq (ns.map V.int) us->∃ps:List (Int×Tok),us.toArray=intItems ps.toArray/\ps.map (·.1)=ns
 | [],us,r=>⟨[],by have:=r.zero;subst this;simp[intItems],rfl⟩
 |n::ns,us,r=>by
  cases r with
  |cons h t=>
   obtain⟨tk,rfl⟩:=h;obtain⟨ps,e1,e2⟩:=xv t;refine⟨(n,tk)::ps,?_,by rw[M4,e2]⟩;have:=q0O Array.toList e1;unfold intItems at this ⊢;simp at this ⊢;exact this
section
variable {X:Cx}
theorem li(hc:X.calm=true):iy X (.builtin "sum") (λxs H Q=>∃(p:Addr) (ns:List Int),xs=[.ref p]/\aT X.K H p (ns.map V.int)/\Q (.int ns.sum) H):=by
 intro pins s σ H xs us Q I r h;obtain⟨p,ns,rfl,g,q⟩:=h;obtain⟨u,rfl,c⟩:=r.one;cases c;obtain⟨its,b,e,_⟩:=I.list g;obtain⟨ps,m,l⟩:=xv b;refine sum_intListG (xs:=ps.toArray) (I.ok.hd hc) (by rw[<- m];exact e.isList) λh' a t' j=>?_;have k:preSum (numAt ps.toArray) ps.toArray.size=ns.sum:=by
  rw[preSum_eq,q0E (by simp),<- l]
 rw[k];exact⟨.int _,H,I.kept (t':=a) j,⟨_,rfl⟩,q⟩
theorem uU:bootBuiltins "sum"=some (.builtin "sum"):=by decide +kernel
end
end L2
namespace L2
open PySem PySem.Spec PyProof.Rows QL bH
theorem Eu{α β:Type}{g:α->β}:∀(l:List α) (f':α->Option β),(∀k∈l,f' k=some (g k))->l.filterMap f'=l.map g
 | [],_,_=>rfl
 |a::l,f',h=>by
  rw[q0Q,h a q0B,M4,Eu l f' λk hk=>h k (MN _ hk)]
section
variable {X:Cx}
def DC(K:Nr):R2:=λx y H Q=>∃a b xs ys,x=.ref a/\y=.ref b/\aV K H a xs/\aV K H b ys/\xs.length+ys.length<=sizeLine/\∀p H',aV K H' p (xs++ys)->aE H H'->Q (.ref p) H'
theorem AU:br X (binaryOp .Add) (DC X.K):=by
 intro c s σ H x y v u Q I rx ry h;obtain⟨a,b,B,L,rfl,rfl,r,o,U,q⟩:=h
 by_cases C:B=[]
 ·subst C
  cases rx;cases ry;obtain⟨m,O,S,_⟩:=I.tuple r;obtain⟨its2,r2,R,_⟩:=I.tuple o;have Z:m=[]:=O.zero;subst Z;obtain⟨⟨cls,dd,data,M⟩,D,J,n,G⟩:=id S;obtain⟨⟨cls2,w,data2,l⟩,g,k,T,j⟩:=id R;simp only at J G k j;subst J G k j;exact concat_meets ⟨_,D,rfl⟩ ⟨_,g,rfl⟩ noFill_tuple_add seq_tuple_add PySem.F.slot_tuple_add PySem.F.entry_tuple_add (PySem.F.args_tuple_add_2 _ _)
   (tuple_addW0 a b _ _ n T dd w M l (by rfl)) ⟨D,g,⟨.ref b,H,I,rfl,q b H (by rw[Nj];exact o) (aE.refl _)⟩⟩
 ·refine d_ c s σ H _ _ v u Q I rx ry ⟨a,b,B,L,rfl,rfl,r,o,C,U,λe=>?_,λ_ p Y=>q p _ (aV.of ad) (ae Y)⟩
  refine q a H ?_ (aE.refl _);rw[e,M8];exact r
variable {e st:Expr}{te ts:TE}{p2 pos:Pos}
end
abbrev nG(a:Addr):Obj:={cls:=.type "tuple_iterator",data:=.fields #[.ref a,.int 0 0]}
abbrev vD(a:Addr):Obj:={cls:=.type "enumerate",data:=.fields #[.none,.bool false,.ref a,rawInt 0,.none,.none]}
set_option tactic.hygienic true in
theorem CK(a:Addr)(us:Array Value)(n:Nat)(dd:NG)(ss:Array (Option Value)) :
  Meets (Builtin.«enumerate.__new__» ⟨[.type "enumerate",.ref a],[]⟩) (λ_ R s=>s.heap.get? a=some {cls:=.type "tuple",dict:=dd,data:=.seq us n,slots:=ss} /\
   R (.ok (.ret (.ref (s.heap.push (nG a)).objs.size))) {s with heap:=(s.heap.push (nG a)).push (vD s.heap.objs.size)}):=
 .of_wp λprog w A R s h=>by
  obtain⟨h0,g0,d0,t0,o0⟩:=s;obtain⟨ea,h⟩:=h;have sb:=sub_enumerate;have isT:Heap.IsTuple (Shared.heap ⟨h0,g0,d0,t0,o0⟩) a us:=⟨_,ea,rfl,n,rfl⟩
  wp_walk using AutoSeq1.wpAny_loadPart' ea
  refine wpAny_stack_any λ_=>q05 ?_
  split
  ·rename_i cc _ _ _ _ _
   cases(cc==Value.type "enumerate")
   ·wp_walk using AutoSeq1.wpAny_loadPart' ea,wpAny_pyIter_tuple isT
    exact⟨_,rfl,h⟩
   ·wp_walk using AutoSeq1.wpAny_loadPart' ea,wpAny_pyIter_tuple isT
    exact⟨_,rfl,h⟩
  ·wp_walk using AutoSeq1.wpAny_loadPart' ea,wpAny_pyIter_tuple isT
   exact⟨_,rfl,h⟩
section
variable {prog:NC}{w:NF}{A:NE}{E:Nq}{s:Nv}
theorem y7{Q:Nq}(ha:s.heap.IsTuple a us)
  (h:∀h',IsEnum h' (s.heap.objs.size+1) s.heap.objs.size 0 .none->h'.IsTupleIter s.heap.objs.size a 0->(∀b o,s.heap.get? b=some o->h'.get? b=some o)->Q (.ref (s.heap.objs.size+1)) {s with heap:=h' }) :
  wpAny (model prog w) A (call (.type "enumerate") [.ref a]) Q E s:=by
 obtain⟨⟨c,p,dt,k⟩,m,j,n,g⟩:=ha;simp only at j g;subst j g;refine callType_new F.called_enumerate nofun (F.typeCall_enumerate_1 _) (F.newCall_enumerate_1 _) (λl=>F.args_object_init_2 l _) F.entry_enumerate_new (CK a us n p k) ⟨m,?_⟩;have sz:(s.heap.push (nG a)).objs.size=s.heap.objs.size+1:=Heap.size_push ..;show _/\_;rw[sz];have e:IsEnum ((s.heap.push (nG a)).push (vD s.heap.objs.size)) (s.heap.objs.size+1) s.heap.objs.size 0 .none:=by
  have q:=MD (s.heap.push (nG a)) (o:=vD s.heap.objs.size) rfl;rw[sz]at q;exact q
 exact⟨⟨_,e,rfl⟩,h _ e ⟨_,Mx _ (MD _ rfl),rfl,rfl⟩ λb o q=>Mx _ (Mx _ q)⟩
theorem zF{i:Nat}{x:Value}{Q:Nq}(ii:s.heap.IsTupleIter i0 a i)(ha:s.heap.IsTuple a us)(hx:us[i]?=some x)
  (q:∀h',h'.IsTupleIter i0 a (i+1)->Heap.SameBut i0 s.heap h'->Q x {s with heap:=h' }):wpAny (model prog w) A (Builtin.SmallTypes.nextOf (.ref i0)) Q E s:=by
 obtain⟨oi,c,j,b⟩:=id ii;obtain⟨oa,e,_,na,g⟩:=ha;unfold Builtin.SmallTypes.nextOf;refine q04 (wpAny_callSpecial?_slot (name:=Str.ofString "__next__") ii.typeIs F.slot_tuple_iterator_next (wpAny_call_entry F.slot_tuple_iterator_next ii.typeIs F.entry_tuple_iterator_next ?_ (F.args_tuple_iterator_next_1 _)));show wpAny _ _ (field (.ref i0) 0 >>= _) _ _ s;refine q04 (wpAny_field c b (x:=.ref a) rfl ?_);show wpAny _ _ (if(Value.ref a==Value.none)=true then _ else _) _ _ s;rw[q06 (show ¬ ((Value.ref a==Value.none)=true) from MW)];show wpAny _ _ (field (.ref i0) 1 >>= _) _ _ s;refine q04 (wpAny_field c b (x:=.int i 0) rfl ?_);show wpAny _ _ (seqItems? (.ref a) >>= _) _ _ s;refine q04 (wpAny_seqItems e g ?_);simp only[MG,hx];refine q04 (wpAny_setField c b (by simp) (q05 ⟨x,rfl,q05 (q _ ?_ (Heap.SameBut.update ..))⟩));exact⟨_,MH _ c (Obj.isFreed_of_fields (Obj.data_mapFields b _)),(Obj.cls_mapFields ..).trans j,by rw[Obj.data_mapFields b];simp[rawInt]⟩
theorem Cp{i:Nat}{Q:Nq}(hh:A.handled=none)(ii:s.heap.IsTupleIter i0 a i)(ha:s.heap.IsTuple a us)(hx:us[i]?=none)
  (q:∀h' e,Heap.ExtBut i0 s.heap h'->(∃o,h'.get? e=some o/\o.cls=.type "StopIteration")->E (.ref e) {s with heap:=h' }):wpAny (model prog w) A (Builtin.SmallTypes.nextOf (.ref i0)) Q E s:=by
 obtain⟨oi,b,ci,c⟩:=id ii;obtain⟨oa,g,_,na,j⟩:=ha;unfold Builtin.SmallTypes.nextOf;refine q04 (wpAny_callSpecial?_slot (name:=Str.ofString "__next__") ii.typeIs F.slot_tuple_iterator_next (wpAny_call_entry F.slot_tuple_iterator_next ii.typeIs F.entry_tuple_iterator_next ?_ (F.args_tuple_iterator_next_1 _)));show wpAny _ _ (field (.ref i0) 0 >>= _) _ _ s;refine q04 (wpAny_field b c (x:=.ref a) rfl ?_);show wpAny _ _ (if(Value.ref a==Value.none)=true then _ else _) _ _ s;rw[q06 (show ¬ ((Value.ref a==Value.none)=true) from MW)];show wpAny _ _ (field (.ref i0) 1 >>= _) _ _ s;refine q04 (wpAny_field b c (x:=.int i 0) rfl ?_);show wpAny _ _ (seqItems? (.ref a) >>= _) _ _ s;refine q04 (wpAny_seqItems g j ?_);simp only[MG,hx];refine q04 (wpAny_rule (q04 (wpAny_setField b c (by simp) ?_)));show wpAny _ _ (newExc (.type "StopIteration") [] >>= _) _ _ _;refine q04 ?_;simp only[newExc,newTuple];refine q04 (wpAny_newObj_type ?_ (by size_fits));refine q04 (m:=firstArgMember _ _) (wpAny_of_eq (a:=Value.none) (by first | rfl | (simp only[firstArgMember];rfl)) ?_);refine wpAny_newObj_type ?_ (by size_fits);simp only[raiseNew];refine q04 (wpAny_handled ?_)
 first | rw[show A.in1.handled=none from hh] | rw[hh]
 refine q04 (q05 (wpAny_throw ?_));exact q _ _ (((Heap.SameBut.update ..).extBut.push _).push _) ⟨_,MD _ rfl,rfl⟩
end
theorem Et{prog:NC}{A:NE}(hh:A.handled=none)(i0 a:Addr)(hne:a≠i0)(us:Array Value) :
  Draws prog w A i0 [i0,a] us.size (λi v=>us[i]?=some v) (λi h=>h.IsTupleIter i0 a i/\h.IsTuple a us) where
 live:=λ_ _ st=>let ⟨o,ho,_⟩:=st.1;⟨o,ho⟩
 frame:=λ_ _ _ st kp=>⟨by obtain⟨o,ho,r⟩:=st.1;exact⟨o,kp i0 (by simp) o ho,r⟩,by obtain⟨o,ho,r⟩:=st.2;exact⟨o,kp a (by simp) o ho,r⟩⟩
 item:=λi s Q E hi st q=>by
  refine zF st.1 st.2 (x:=us[i]) (by simp[hi]) λh' i1 sb=>?_;refine q _ h' s.toks (by simp[hi]) ⟨i1,?_⟩ sb;obtain⟨o,ho,r⟩:=st.2;exact⟨o,(sb.2 a hne).trans ho,r⟩
 done:=λs Q E st q=>Cp hh st.1 st.2 (by simp) q
def Ic(K:Nr)(a:Addr):It:=
 ⟨λi H=>∃xs x,aV K H a xs/\xs[i]?=some x,λi H v H'=>∃T x,v=.ref T/\H T=none/\H'=aC H T (.tup [.int (i:Int),x])/\∀xs,aV K H a xs->xs[i]?=some x,λi H=>∃xs,aV K H a xs/\xs.length=i⟩
theorem zU{K:Nr}{elts:NH}{tp:Pos}{e it l:Addr}(hei:e≠it)(hel:l≠e)(hil:l≠it) :
  rP P w K (.Tuple elts x1 tp) (Ic K l) [e,it] e (λi h=>(∃old,IsEnum h e it i old)/\h.IsTupleIter it l i) where
 mem:=by simp
 obj:=λi h j b C=>by
  obtain⟨⟨old,g⟩,⟨O,J,c1,d1⟩⟩:=j;simp only[MM,List.not_mem_nil,or_false]at C;rcases C with rfl | rfl
  ·exact⟨_,g,λv q=>by cases q⟩
  ·exact⟨_,J,λv q=>by rw[d1]at q;cases q⟩
 keep:=λi h h' j B=>by
  obtain⟨⟨old,g⟩,⟨O,J,r⟩⟩:=j;exact⟨⟨old,B e (by simp) _ g⟩,⟨O,B it (by simp) _ J,r⟩⟩
 item:=by
  intro X Y T Z k i G s σ H E I hf j hg;subst Y T Z;obtain⟨xs,x,L,S⟩:=hg;obtain⟨a,M,p,hz⟩:=I.tuple L;obtain⟨u,hu,ru⟩:=M.get S;obtain⟨⟨old,g⟩,h1⟩:=j;obtain⟨O,J,_⟩:=id h1;have D:=Et (prog:=X.prog) (w:=X.w) (A:=X.A.in1) (I.ok.hd k) it l hil a.toArray;have n:i<a.toArray.size:=by rw[ME];exact(Mw.mp hu).1
  refine wpAny_pyNext_enum_itemD D g ⟨h1,p⟩ n hei (by simp[hei,Ne.symm hel]) λv h' tk hv a1 a2 a3 a4 B=>?_;have ev:v=u:=by
   have:a[i]?=some v:=by simpa using hv
   rw[hu]at this;exact(q0P this).symm
  subst ev;refine⟨_,rfl,wpAny_letOwnedTupleGo_enum a1 λh2 U m=>?_⟩;have y:H s.heap.objs.size=none:=I.hok.fresh (MU _);have lt:∀{c o},s.heap.get? c=some o->s.heap.objs.size≠c:=λe=>Nat.ne_of_gt (MX e);have kk:∀c o,c∉[e,it]->s.heap.get? c=some o->h2.get? c=some o:=λc o k q=>
   m.extBut _ _ (λz=>k (by simp[z])) (B c o (λz=>k (by simp[z])) (λz=>k (by simp[z])) q)
  have hT:h2.get? s.heap.objs.size=some {cls:=.type "tuple",data:=.seq #[.int i tk,v]}:=m.extBut _ _ (lt g) a3;refine⟨.ref s.heap.objs.size,aC H s.heap.objs.size (.tup [.int i,x]),I.movedT (tk:=tk+1) hf kk (MU _) ⟨show 2<=sizeLine from by decide +kernel,[.int i tk,v],.cons ⟨_,rfl⟩ (.cons ru .nil),_,hT,rfl,_,rfl⟩,rfl,
   ⟨_,x,rfl,y,rfl,λzs R=>by rw[I.tuple_inj R L];exact S⟩,⟨⟨v,by simpa using U⟩,?_⟩,λb C=>?_⟩
  ·obtain⟨o2,e2,r⟩:=a2.1
   exact⟨o2,m.extBut _ _ (Ne.symm hei) e2,r⟩
  have n:b≠s.heap.objs.size:=by
   simp only[MM,List.not_mem_nil,or_false]at C;rcases C with rfl | rfl
   ·exact(lt g).symm
   ·exact(lt J).symm
  rw[aq n];exact(hf b C).1
 done:=by
  intro X Y T Z k i G s σ H E I hf j hg;subst Y T Z;obtain⟨xs,L,S⟩:=hg;obtain⟨a,M,p,hz⟩:=I.tuple L;obtain⟨⟨old,g⟩,h1⟩:=j;have l1:=M.length;have D:=Et (prog:=X.prog) (w:=X.w) (A:=X.A.in1) (I.ok.hd k) it l hil a.toArray;have ei:i=a.toArray.size:=by rw[ME];omega
  subst ei;exact wpAny_pyNext_enum_endD D g ⟨h1,p⟩ λh' B=>⟨rfl,I.moved (tk:=s.toks) hf λc o k e=>B c o (λq=>k (by simp[q])) e⟩
 self:=λ_ _ _ _ _ j h=>let ⟨⟨_,g⟩,_⟩:=j;wpAny_pyIter_enum g h
def Al(K:Nr)(ta:TA):TI:=λσ H R=>ta σ H λvs H1=>∃a xs,vs=[.ref a]/\aV K H1 a xs/\R (Ic K a) H1
section
variable {X:Cx}{elts:NH}{x1:Nat}{tp:Pos}
theorem D_{a:Expr}{ta:TA}{p pos:Pos}(hg:Gl X "enumerate")(hm:X.mg "enumerate"=none)(ha:PA X [a] ta)(hs:autoParam (starEach [a] X.env=[(false,eval a X.env)]) zz0._auto_1):PI X (.Tuple elts x1 tp) (.Call (.Name "enumerate" p) [a] [] pos) (Al X.K ta):=by
 intro c s σ H R I h;refine Call_ (fP I hg hm boot_enumerate (PyProof.Rows.callWith_type1 (bZ (ha pos c s σ H _ I h) λus g ⟨vs,w,m,B,C⟩=>?_) (by rw[hs];rfl) (by rfl)));obtain⟨l,xs,rfl,D,q⟩:=C;obtain⟨u,rfl,y⟩:=B.one;cases y;obtain⟨its,rv,r,_⟩:=m.tuple D;have j:l<g.heap.objs.size:=by obtain⟨o,e,_⟩:=r;exact MX e
 refine y7 r λJ n x G=>?_;have L:Inv X c σ w {g with heap:=J }:=m.kept (t':=g.toks) G;refine wpAny_pyIter_enum n ?_;refine⟨g.heap.objs.size+1,[g.heap.objs.size+1,g.heap.objs.size],_,_,w,rfl,L,zU (l:=l) (Nat.ne_of_gt (M7 _)) (MQ (Nat.lt_succ_of_lt j)) (MQ j),⟨⟨_,n⟩,x⟩,λb v=>?_,q⟩;have k:g.heap.objs.size<=b:=by
  simp only[MM,List.not_mem_nil,or_false]at v;rcases v with e | e<;>(rw[e];first | exact MU _ | exact Nat.le_add_right _ _)
 exact m.fpOk k (m.hok.fresh k)
end
section
variable {K:Nr}{g:TG}{tb:TS}{D:iT}{σ:St}{H:Hp}
theorem yO{xs:List V}(Pv:Nat->St->Hp->Prop)(h0:Pv 0 σ H)(hl:∀i σ H,i<=xs.length->Pv i σ H->aV K H a xs)
  (hs:∀(i:Nat) x σ H T,xs[i]?=some x->Pv i σ H->H T=none->g (.ref T) σ (aC H T (.tup [.int (i:Int),x])) λσ2 H2=>tb {D with nx:=Pv (i+1),ct:=Pv (i+1),bk:=D.nx} σ2 H2) (hd:∀σ H,Pv xs.length σ H->D.nx σ H):vJ (Ic K a) g tb D σ H:=by
 refine⟨λi m σ H=>m=xs.length-i/\i<=xs.length/\Pv i σ H,⟨xs.length,by simp,MV _,h0⟩,?_⟩;rintro i m σ H ⟨rfl,c,p⟩;have q:=hl i σ H c p
 by_cases b:i<xs.length
 ·refine .inr ⟨⟨xs,xs[i],q,by simp[b]⟩,Pv (i+1),λσ' k p'=>⟨xs.length-(i+1),⋯,rfl,b,p'⟩,λx k y=>?_⟩
  obtain⟨T,x,rfl,j,rfl,y⟩:=y;exact hs i x σ _ T (y xs q) p j
 ·have e:i=xs.length:=by omega
  subst e;exact .inl ⟨⟨xs,q,rfl⟩,hd σ H p⟩
end
section
variable {prog:NC}{w:NF}{A:NE}{E:Nq}{s:Nv}
open HT in
theorem lR{t sl:Addr}{items:Array Value}{vl vu:Value}{lo hi:Option Int}{Q:Nq}(ht:IsTup s.heap t items)(hs:s.heap.IsSliceOf sl vl vu .none)(pl:IsPart vl lo)(pu:IsPart vu hi)
  (hw:sIx items.size 0 lo=0/\sIx items.size items.size hi=items.size) (h:Q (.ref t) s):wpAny (model prog w) A (getItem (.ref t) (.ref sl)) Q E s:=by
 obtain⟨g,b,c,hds⟩:=id hs;have e:s.TypeIs (.ref sl) "slice":=⟨g,b,c⟩;unfold getItem
 try with_reducible refine q0T ?_
 first | refine q04 (q05 ?_) | skip
 refine q04 (wpAny_sequenceKey ht.typeIs nofun ?_);refine q04 (wpAny_callSpecial?_slot (name:=Str.ofString "__getitem__") ht.typeIs PyProof.Rows.slot_tuple_getitem
  (wpAny_call_entry PyProof.Rows.slot_tuple_getitem ht.typeIs entry_tuple_getitem ?_ (args_tuple_getitem _ _)))
 show wpAny _ _ (Builtin.Tuple.tupleItemsOf (.ref t) >>= _) _ _ s;refine q04 (tupleItemsOf_ ht ?_);refine q04 (wpAny_typeOf e ?_);rw[q07 nofun];refine q04 (iQ hs pl pu ?_);have a:(((sIx items.size 0 lo:Nat):Int)==0&&(1:Int)==1&&(sIx items.size items.size hi-sIx items.size 0 lo)==items.size)=true:=by
  rw[hw.1,hw.2];simp
 show wpAny _ _ (if(((sIx items.size 0 lo:Nat):Int)==0&&(1:Int)==1&&(sIx items.size items.size hi-sIx items.size 0 lo)==items.size)=true then _ else _) _ _ s;rw[q07 a];refine q04 ?_;unfold Builtin.Tuple.tupleIsExact;refine q04 (wpAny_typeOf ht.typeIs ?_);refine q05 ?_;rw[q07 nofun];refine q04 (wpAny_rule ?_);exact q05 ⟨_,rfl,q05 h⟩
end
def Hn(K:Nr):V->Option Int->Option Int->Hp->VK->Prop:=λx lo hi H Q=>∃a xs,x=.ref a/\aV K H a xs/\∀p H',aV K H' p (iY xs lo hi)->aE H H'->Q (.ref p) H'
section
variable {X:Cx}
theorem FH:IE X (Hn X.K):=by
 intro pins s σ H x v vl vu lo hi sl Q I rx hs pl pu h;obtain⟨a,g,rfl,n,q⟩:=h;cases rx;obtain⟨k,r,l,m⟩:=I.tuple n;have c:k.toArray.size=g.length:=by rw[ME];exact r.length.symm
 refine⟨"tuple",_,PyProof.Rows.slot_tuple_getitem.lookup,l.typeIs,?_⟩
 by_cases j:HT.sIx g.length 0 lo=0/\HT.sIx g.length g.length hi=g.length
 ·refine lR l hs pl pu (by rw[c];exact j) ?_
  refine⟨.ref a,H,I,rfl,q a H ?_ (aE.refl _)⟩;have e:iY g lo hi=g:=by unfold iY;rw[j.1,j.2,Np,Nat.sub_zero,M']
  rw[e];exact n
 ·refine HT.getItem_tuple_cut l hs pl pu (by rw[c];exact j) ?_ (by rw[c];exact m)
  rw[c];refine⟨.ref s.heap.objs.size,_,I.laid (t':=s.toks) (o:=.tup (iY g lo hi)) (λb ob q=>Mx _ q) (MU _) ?_,rfl,q _ _ (aV.of ad) (ae (I.hok.fresh (MU _)))⟩;exact⟨M5 (kO g lo hi) m,_,(r.drop (HT.sIx g.length 0 lo)).take (HT.sIx g.length g.length hi-HT.sIx g.length 0 lo),IsTup.new _ _⟩
end
theorem Jp{P:Addr->Prop}:(∃p,V.ref a=V.ref p/\P p)=P a:=by simp
theorem Ju{a:Int}{P:Int->Prop}:(∃p,V.int a=V.int p/\P p)=P a:=by simp
theorem Jk{P:Bool->Prop}:(∃p,V.bl a=V.bl p/\P p)=P a:=by simp
theorem JI{P:Str->Prop}:(∃p,V.str a=V.str p/\P p)=P a:=by simp
theorem JA{α:Type}{P:Addr->α->Prop}:(∃p,∃x,V.ref a=V.ref p/\P p x) = ∃x,P a x:=by simp
theorem Jq{α:Type}{P:Addr->α->Prop}:(∃p,∃x,[V.ref a]=[V.ref p]/\P p x) = ∃x,P a x:=by simp
theorem Jl{α:Type}{v:V}{P:Addr->α->V->Prop}:(∃p,∃x,∃y,V.ref a=V.ref p/\[v]=[y]/\P p x y) = ∃x,P a x v:=by simp
theorem Jv{α β:Type}{P:Addr->Addr->α->β->Prop}:(∃p,∃q,∃x,∃y,V.ref a=V.ref p/\V.ref b=V.ref q/\P p q x y) = ∃x,∃y,P a b x y:=by simp
def Ja(i:Nat):TE:=λσ H Q=>match σ[i]? with
 |some (some v)=>Q v H
 |_=>False
def Fy(g:Int->Int->V):R2
 | .int i,.int j,H,Q=>Q (g i j) H
 |x,y,H,Q=>BG g x y H Q
def Ji(C:Int->Int->Prop)(g:Int->Int->V):R2
 | .int i,.int j,H,Q=>C i j/\Q (g i j) H
 |x,y,H,Q=>rI C g x y H Q
def Ay(K:Nr):R2
 | .ref p,.int i,H,Q=>∃xs,aT K H p xs/\∃v,dY xs i=some v/\Q v H
 |x,y,H,Q=>BY K x y H Q
def AZ(K:Nr):R2
 | .ref p,.int i,H,Q=>∃xs,aV K H p xs/\∃v,dY xs i=some v/\Q v H
 |x,y,H,Q=>BD K x y H Q
theorem DK:Fy g x y H Q=BG g x y H Q:=by
 unfold Fy;split
 ·simp[BG]
 ·rfl
theorem GW:Ji C g x y H Q=rI C g x y H Q:=by
 unfold Ji;split
 ·simp[rI]
 ·rfl
theorem AJ{K:Nr}:Ay K x y H Q=BY K x y H Q:=by
 unfold Ay;split
 ·simp[BY]
 ·rfl
theorem Aw{K:Nr}:AZ K x y H Q=BD K x y H Q:=by
 unfold AZ;split
 ·simp[BD]
 ·rfl
theorem Gc{i j:Int}{H:Hp}:Fy g (.int i) (.int j) H Q=Q (g i j) H:=rfl
theorem G6{i j:Int}{H:Hp}:Ji C g (.int i) (.int j) H Q=(C i j/\Q (g i j) H):=rfl
theorem E4{K:Nr}{i:Int}{H:Hp}:Ay K (.ref p) (.int i) H Q = ∃xs,aT K H p xs/\∃v,dY xs i=some v/\Q v H:=rfl
theorem Ea{K:Nr}{i:Int}{H:Hp}:AZ K (.ref p) (.int i) H Q = ∃xs,aV K H p xs/\∃v,dY xs i=some v/\Q v H:=rfl
theorem Lz{α β:Type}{f:α->β}{a:α}{l:List α}:List.map f (a::l)=f a::List.map f l:=rfl
theorem Mm{α β:Type}{f:α->β}:List.map f []=[]:=rfl
theorem Kl{α:Type}{a:α}{l m:List α}:(a::l)++m=a::(l++m):=rfl
theorem LK{α:Type}{m:List α}:[]++m=m:=rfl
theorem Ly{α:Type}{a:α}{l:List α}:(a::l)[0]?=some a:=rfl
theorem Kz{α:Type}{a:α}{l:List α}{n:Nat}:(a::l)[n+1]?=l[n]?:=rfl
theorem K9{α:Type}{a b:α}{l:List α}:(a::l).set 0 b=b::l:=rfl
theorem Ln{α:Type}{a b:α}{l:List α}{n:Nat}:(a::l).set (n+1) b=a::l.set n b:=rfl
section
variable {X:Cx}
theorem al(i:Nat){x:Str}{pos:Pos}(hN:autoParam (X.N[i]?=some x) zz0._auto_1)(hv:autoParam (Jf X.env.scope x) zz6._auto_1)(hd:autoParam ((x==("__debug__":Str))=false) zz1._auto_1)
  (hc:autoParam ((x==("__classdict__":Str))=false) zz1._auto_1):PE X (.Name x pos) (Ja i):=λpins s σ H Q I h=>pv i hN hv hd hc pins s σ H Q I (by
 unfold Ja at h
 split at h
 ·exact⟨_,‹_›,h⟩
 ·exact h.elim)
theorem br.m0{f:Value->Value->Sem Value}(h:br X f (BG g)):br X f (Fy g):=λpins s σ H x y v u Q I a b c=>h pins s σ H x y v u Q I a b (DK▸c)
theorem br.m1{f:Value->Value->Sem Value}(h:br X f (rI C g)):br X f (Ji C g):=λpins s σ H x y v u Q I a b c=>h pins s σ H x y v u Q I a b (GW▸c)
theorem aO:GM X (Ay X.K):=λe sl pins s σ H x y v u Q I a b c d=>vo e sl pins s σ H x y v u Q I a b (AJ▸c) d
theorem ar:GM X (AZ X.K):=λe sl pins s σ H x y v u Q I a b c d=>EN e sl pins s σ H x y v u Q I a b (Aw▸c) d
end
section
variable {prog:NC}{w:NF}{A:NE}{E:Nq}{s:Nv}
theorem tI{a b:Int}{t u:Tok}{Q:Nq}(hh:A.handled=none)(hl:s.heap.IsTuple l (intItems #[(a,t),(b,u)]))
  (h:∀h' tk,(∀c o,s.heap.get? c=some o->h'.get? c=some o)->Q (if b>a then .int b u else .int a t) {s with heap:=h',toks:=tk}) :
  wpAny (model prog w) A (call (.builtin "max") [.ref l]) Q E s:=by
 have p:l<s.heap.objs.size:=by obtain⟨_,e,_⟩:=hl;exact MX e
 refine call_max_walk (wpAny_pyIter_tuple hl ?_);refine⟨_,[_,l],[_],_,_,_,_,rfl,Walks.tuple (A:=A.in1) hh _ l (MQ p) (intItems #[(a,t),(b,u)]),
  ⟨⟨_,MD _ rfl,rfl,rfl⟩,hl.push _⟩,λc hc=>?_,by simp[intItems],CmpOf.ints_gt (numAt #[(a,t),(b,u)]) (λ_ _=>intItems_at),λv h' tk x r=>?_⟩
 ·show c<(s.heap.push _).objs.size
  rw[Heap.size_push];rcases MM.mp hc with rfl | hc
  ·exact M7 _
  ·rcases MM.mp hc with rfl | hc
   ·exact Nat.lt_succ_of_lt p
   ·cases hc
 ·have n:∀c o,s.heap.get? c=some o->h'.get? c=some o:=λc o e=>by
   refine r c o (λhm=>?_) (Mx _ e);rcases MM.mp hm with y | hm
   ·have:=MX e;rw[y]at this;exact M6 _ this
   ·cases hm
  have:=h h' tk n;have q:v=if b>a then Value.int b u else Value.int a t:=by
   have k:(intItems #[(a,t),(b,u)])[argBest (λi j=>decide (numAt #[(a,t),(b,u)] i>numAt #[(a,t),(b,u)] j)) 1]?=some v:=by
    have m:(intItems #[(a,t),(b,u)]).size-1=1:=by simp[intItems]
    rw[<- m];exact x
   by_cases g:b>a
   ·have e:argBest (λi j=>decide (numAt #[(a,t),(b,u)] i>numAt #[(a,t),(b,u)] j)) 1=1:=by simp[argBest,numAt,g]
    rw[e]at k
    simpa[intItems,g]using k.symm
   ·have e:argBest (λi j=>decide (numAt #[(a,t),(b,u)] i>numAt #[(a,t),(b,u)] j)) 1=0:=by simp[argBest,numAt,g]
    rw[e]at k
    simpa[intItems,g]using k.symm
  rw[q];exact this
end
def Du(K:Nr):List V->Hp->VK->Prop:=λxs H Q=>∃p i j,xs=[.ref p]/\aV K H p [.int i,.int j]/\Q (.int (if j>i then j else i)) H
section
variable {X:Cx}
theorem BB(hc:X.calm=true):iy X (.builtin "max") (Du X.K):=by
 intro pins s σ H xs us Q I r h;obtain⟨p,i,j,rfl,y,q⟩:=h;obtain⟨u,rfl,x⟩:=r.one;cases x;obtain⟨its,w,⟨o,e,g,n,hd⟩,_⟩:=I.tuple y;obtain⟨v,v',rfl,⟨t,rfl⟩,⟨m,rfl⟩⟩:=IB w;refine tI (l:=p) (a:=i) (b:=j) (t:=t) (u:=m) (I.ok.hd hc) ⟨o,e,g,n,by rw[hd];simp[intItems]⟩ λh' tk k=>⟨_,H,I.kept k,?_,q⟩
 by_cases c:j>i
 ·rw[q07 c,q07 c];exact⟨_,rfl⟩
 ·rw[q06 c,q06 c];exact⟨_,rfl⟩
end
def IC(o:Obj):Option HO->Option HO
 |some (.lst xs)=>some (.frz o (.lst xs))
 |u=>u
def cZ(H:Hp)(ls:Ny)(os:Addr->Obj):Hp:=λb=>if b∈ls then IC (os b) (H b) else H b
theorem gI{H:Hp}{ls:Ny}{os:Addr->Obj}{u:HO}(h:H b=some u)(hn:b∉ls\/∀xs,u≠.lst xs):cZ H ls os b=some u:=by
 unfold cZ
 split
 ·rename_i hb
  rcases hn with hn | hn
  ·exact q0N hb hn
  ·rw[h]
   cases u<;>first | rfl | exact q0N rfl (hn _)
 ·exact h
theorem EW{ls:Ny}{os:Addr->Obj}:cZ H ls os b=none↔H b=none:=by
 unfold cZ
 split
 ·cases h:H b with
  |none=>exact⟨λ_=>rfl,λ_=>rfl⟩
  |some u=>cases u<;>simp[IC]
 ·exact Iff.rfl
theorem zJ{H:Hp}{ls:Ny}{os:Addr->Obj}(h:H b=some (.lst xs))(hb:b∈ls):cZ H ls os b=some (.frz (os b) (.lst xs)):=by
 unfold cZ;rw[q07 hb,h];rfl
section
variable {X:Cx}{pins:Nt}{σ:St}{H:Hp}{s:Nv}
theorem Inv.freeze(I:Inv X pins σ H s){ls:Ny}(hl:∀l∈ls,∃xs,H l=some (.lst xs)):∃os,Inv X pins σ (cZ H ls os) s:=by
 refine⟨λb=>(s.heap.get? b).getD default,?_⟩;generalize j:(λb=>(s.heap.get? b).getD default:Addr->Obj)=os;have old:∀b u,H b=some u->(∀xs,u≠.lst xs)->cZ H ls os b=some u:=λb u h x=>gI h (.inr x);have hok:ly X.prog X.w (cZ H ls os) s.heap:=λb u e=>by
  by_cases k:b∈ls
  ·obtain⟨xs,m⟩:=hl b k
   rw[zJ m k]at e;cases e;have p:=I.hok b _ m;obtain⟨z,a,n,r,g⟩:=p;refine⟨?_,z,a,n,r,g⟩;rw[<- j];show s.heap.get? b=some ((s.heap.get? b).getD default);rw[g];rfl
  ·unfold cZ at e
   rw[q06 k]at e;exact(I.hok b u e).stay (λc v _ q=>q) (λc q=>old c _ q (by intro xs z;cases z)) λc xs q=>old c _ q (by intro xs z;cases z)
 have un:Un X.fs [] H (cZ H ls os) s.heap s.heap:=⟨λb o e _ _ _=>e,λb o e _ _ _=>⟨o.slots,e⟩,λb o _ n _=>EW.mpr n,λb o e _=>⟨o,e⟩,λb xs e=>old b _ e (by intro xs z;cases z),λb o u e=>old b _ e (by intro xs z;cases z),λb ps e=>⟨#[],by rw[old b _ e (by intro xs z;cases z)];simp⟩⟩;exact I.un (h':=s.heap) (t':=s.toks) un hok
def Hj(t:TS):TS:=λD σ H=>t {D with nx:=λσ' H'=>∃ls:List Addr,(∀l∈ls,∃xs,H' l=some (.lst xs))/\∀os,D.nx σ' (cZ H' ls os)} σ H
theorem Hi{st:Stmt}{t:TS}(h:PS X st t):PS X st (Hj t):=by
 intro a s σ H D I q;refine bZ (h a s σ H _ I q) λf s' b=>?_;cases f with
 |next=>
  obtain⟨σ',H',k,ls,g,c⟩:=b;obtain⟨e,j⟩:=k.freeze g;exact⟨σ',_,j,c e⟩
 |brk=>exact b
 |cont=>exact b
 |ret u=>exact b
end
def IM(_ j:Int):Prop:=0<j/\j.natAbs.log2<9000
section
variable {X:Cx}
theorem Fi:br X (binaryOp .FloorDiv) (rI IM λi j=>.int (i/j)):=Jh λi j _ _ _ _ _ hc q=>by
 have h1:(0:Int)<j:=hc.1;exact floordiv_int ⋯ (by rw[Int.fdiv_eq_ediv_of_nonneg i ⋯];exact q) (.inl (PyProof.noPylong_of_log2 hc.2))
end
def pT(rss tss:List (List V)):Bool:=if rss.length=tss.length then(List.range rss.length).all (λj=>match rss[j]?,tss[j]? with | some x,some y=>kE x y | _,_=>true) else false
def Ik(K:Nr)(H:Hp)(l:Addr)(rss:List (List V)):Prop:=∃bs:List Addr,aT K H l (bs.map V.ref)/\bs.length=rss.length/\∀(i:Nat) b r,bs[i]?=some b->rss[i]?=some r->aV K H b r/\r.all jM=true
theorem ud{xs:List V}(h:xs.all jM=true):kE xs xs=true:=by
 unfold kE;rw[q0L,Ng];refine⟨λj a=>?_,by simp⟩;have a:=List.mem_range.mp a;rw[Mv ⋯];dsimp only;have b:=Ng.mp h _ (MF (show j<xs.length by omega));generalize xs[j]'⋯=x at b;cases x<;>simp_all [jM,rE]
section
variable {X:Cx}{pins:Nt}{σ:St}{H:Hp}{s:Nv}{A:NE}
theorem FU(I:Inv X pins σ H s){a b:Addr}{xs ys:List V}(hu:A.units<cLine)(ha:aV X.K H a xs)(hb:aV X.K H b ys)(fx:xs.all jM=true)(fy:ys.all jM=true):SeqAt.EqAt A s (.ref a) (.ref b) (kE xs ys):=by
 by_cases k:a=b
 ·subst k
  rw[I.tuple_inj ha hb,ud fy];exact SeqAt.EqAt.same _
 obtain⟨g,u,D,_⟩:=I.tuple ha;obtain⟨c,r,C,_⟩:=I.tuple hb;have J:=u.length;have G:=r.length
 have v:=SeqAt.RcAt.tuples (A:=A) (s:=s) (e:=λj=>match xs[j]?,ys[j]? with | some x,some y=>rE x y | _,_=>true) (show s.heap.IsTuple a g.toArray from D) (show s.heap.IsTuple b c.toArray from C) hu (λj M L=>by
  have q:j<g.length:=by simpa using M
  have p:j<c.length:=by simpa using L
  have m:xs[j]?=some xs[j]:=Mv ⋯;have l:ys[j]?=some ys[j]:=Mv ⋯;obtain⟨w1,B,o⟩:=u.get m;obtain⟨w2,w,n⟩:=r.get l;rw[Mv q]at B;rw[Mv p]at w;cases B;cases w
  simp only[Ni,m,l];exact gR o n (Ng.mp fx _ (MB m)) (Ng.mp fy _ (MB l)))
 rw[ME,ME,<- J,<- G]at v;exact SeqAt.EqAt.of_refs k v
theorem uN{rss:List (List V)}(h:∀r∈rss,r.all jM=true):pT rss rss=true:=by
 unfold pT;rw[q07 rfl,Ng];intro j a;have a:=List.mem_range.mp a;rw[Mv a];exact ud (h _ (MF a))
theorem IY(I:Inv X pins σ H s){a b:Addr}{rss tss:List (List V)}(hu:A.units+1<cLine)(ha:Ik X.K H a rss)(hb:Ik X.K H b tss):SeqAt.EqAt A s (.ref a) (.ref b) (pT rss tss):=by
 obtain⟨g,p,o,c⟩:=ha;obtain⟨bs,m,B,l⟩:=hb
 by_cases n:a=b
 ·subst n
  have e:=I.list_inj p m;have e2:g=bs:=by
   have:g.map V.ref=bs.map V.ref:=e;clear e p o c m B l
   induction g generalizing bs with
   |nil=>cases bs with
    |nil=>rfl
    |cons _ _=>cases this
   |cons x g ih=>cases bs with
    |nil=>cases this
    |cons y bs=>
     rw[M4,M4]at this
     injection this with h1 h2
     injection h1 with h1
     rw[h1,ih bs h2]
  subst e2;have e3:rss=tss:=by
   apply List.ext_getElem
   ·omega
   ·intro i i1 i2
    have h1:=c i _ _ (Mv (by omega:i<g.length)) (Mv i1);have h2:=l i _ _ (Mv (by omega:i<g.length)) (Mv i2);exact I.tuple_inj h1.1 h2.1
  subst e3;rw[uN λr hr=>by
   obtain⟨i,U⟩:=List.getElem?_of_mem hr;exact(c i _ _ (Mv (by rw[o];exact(Mw.mp U).1)) U).2]
  exact SeqAt.EqAt.same _
 obtain⟨u,L,R,_⟩:=I.list p;obtain⟨k,J,O,_⟩:=I.list m;have S:=L.length;have l2:=J.length
 rw[My]at S l2;unfold pT
 by_cases T:rss.length=tss.length
 ·rw[q07 T]
  have q:=SeqAt.RcAt.lists (A:=A) (s:=s) (e:=λj=>match rss[j]?,tss[j]? with | some x,some y=>kE x y | _,_=>true) R.isList O.isList (by simp;omega) ⋯ λj g1 g2=>by
   have D:j<u.length:=by simpa using g1
   have C:j<k.length:=by simpa using g2
   have x1:(g.map V.ref)[j]?=some (V.ref (g[j]'⋯)):=by rw[MA,Mv ⋯];rfl
   have y1:(bs.map V.ref)[j]?=some (V.ref (bs[j]'⋯)):=by rw[MA,Mv ⋯];rfl
   obtain⟨w1,Z,w⟩:=L.get x1;obtain⟨w2,Y,v⟩:=J.get y1;rw[Mv D]at Z;rw[Mv C]at Y;cases Z;cases Y
   have M:rss[j]?=some (rss[j]'⋯):=Mv _;have G:tss[j]?=some (tss[j]'⋯):=Mv _;obtain⟨h1,h2⟩:=c j _ _ (Mv ⋯) M;obtain⟨h3,h4⟩:=l j _ _ (Mv ⋯) G;simp only[Ni];rw[show u[j]=Value.ref (g[j]'⋯) from w,show k[j]=Value.ref (bs[j]'⋯) from v,M,G];exact FU I (by show A.units+1<cLine;exact hu) h1 h3 h2 h4
  rw[ME,<- S,o]at q;exact SeqAt.EqAt.of_refs n q
 ·rw[q06 T]
  exact SeqAt.EqAt.of_refs n (SeqAt.RcAt.lists_lengths (A:=A) (s:=s) R.isList O.isList (by simp;omega) ⋯)
end
section
variable {X:Cx}
def HE(K:Nr):R2:=λx y H Q=>∃a b i j la lb rss tss,x=.ref a/\y=.ref b/\aV K H a [.int i,.ref la]/\aV K H b [.int j,.ref lb]/\Ik K H la rss/\Ik K H lb tss/\Q (.bl (decide (i=j)&&pT rss tss)) H
theorem Hm(hu:X.A.units+64<cLine):br X (compareOp .Eq) (HE X.K):=by
 intro pins s σ H x y v u Q I rx ry h;obtain⟨a,b,i,j,C,B,g,c,rfl,rfl,M,L,r,p,q⟩:=h;cases rx;cases ry
 obtain⟨its,m,J,_⟩:=I.tuple M;obtain⟨its2,l,G,_⟩:=I.tuple L;cases m with
 |cons q1 m=>
 cases m with
 |cons q2 m=>
 cases m;cases l with
 |cons p1 l=>
 cases l with
 |cons p2 l=>
 cases l;obtain⟨o,rfl⟩:=q1;obtain⟨n,rfl⟩:=p1;obtain rfl:=q2;obtain rfl:=p2;have D:=SeqAt.RcAt.tuples (A:=X.A) (s:=s) (e:=λk=>if k=0 then decide (i=j) else pT g c) (show s.heap.IsTuple a _ from J) (show s.heap.IsTuple b _ from G) ⋯ (λk O g2=>by
  have w:k<2:=by simpa using O
  match k,w with
  |0,_=>
   have h1:bv (V.int i) (.int i o):=⟨o,rfl⟩;have h2:bv (V.int j) (.int j n):=⟨n,rfl⟩;have:=gR (A:=X.A.in1) (s:=s) h1 h2 rfl rfl;rw[show rE (V.int i) (V.int j)=decide (i=j) by simp[rE];rfl]at this;exact this
  |1,_=>exact IY I (by show X.A.units+1+1<cLine;omega) r p)
 refine D _ _ _ _ ⟨.bl _,H,I,rfl,?_⟩;have e:(((List.range (min [Value.int i o,Value.ref C].toArray.size [Value.int j n,Value.ref B].toArray.size)).all λk=>if k=0 then decide (i=j) else pT g c)&&[Value.int i o,Value.ref C].toArray.size==[Value.int j n,Value.ref B].toArray.size)=(decide (i=j)&&pT g c):=by
  show(([0,1].all λk=>if k=0 then decide (i=j) else pT g c)&&true)=_;simp
 rw[e];exact q
end
section
variable {prog:NC}{w:NF}{A:NE}{E:Nq}{s:Nv}
theorem zS{t:Addr}{its}{x:Value}{Q:Nq}(hj:s.heap.IsTupleIter j t n)(ht:s.heap.IsTuple t its)(hx:its[n]?=some x)
  (q:∀h',h'.IsTupleIter j t (n+1)->Heap.SameBut j s.heap h'->Q x {s with heap:=h' }):wpAny (model prog w) A (Builtin.SmallTypes.nextOf (.ref j)) Q E s:=by
 obtain⟨oj,b,e,a⟩:=id hj;obtain⟨ot,et,_,m,c⟩:=ht
 unfold Builtin.SmallTypes.nextOf;refine q04 (wpAny_callSpecial?_slot (name:=Str.ofString "__next__") hj.typeIs F.slot_tuple_iterator_next (wpAny_call_entry F.slot_tuple_iterator_next hj.typeIs F.entry_tuple_iterator_next ?_ (F.args_tuple_iterator_next_1 _)))
 show wpAny _ _ (field (.ref j) 0 >>= _) _ _ s;refine q04 (wpAny_field b a (x:=.ref t) rfl ?_)
 show wpAny _ _ (if(Value.ref t==Value.none)=true then _ else _) _ _ s;rw[q06 (show ¬ ((Value.ref t==Value.none)=true) from MW)]
 show wpAny _ _ (field (.ref j) 1 >>= _) _ _ s;refine q04 (wpAny_field b a (x:=.int n 0) rfl ?_)
 show wpAny _ _ (seqItems? (.ref t) >>= _) _ _ s;refine q04 (wpAny_seqItems et c ?_)
 simp only[MG,hx];refine q04 (wpAny_setField b a (by simp) (q05 ⟨x,rfl,q05 (q _ ?_ (Heap.SameBut.update ..))⟩))
 exact⟨_,MH _ b (Obj.isFreed_of_fields (Obj.data_mapFields a _)),(Obj.cls_mapFields ..).trans e,by rw[Obj.data_mapFields a];simp[rawInt]⟩
theorem Aa{z TI TO t:Addr}{x y:Value}{Q:Option Value->Shared->Prop}(D:ZipApart z TI TO i1 i2 l t)(z0:IsZip s.heap z TI TO .none)(p0:IsPair s.heap TI (.ref i1) (.ref i2))(o0:IsPair s.heap TO a b)
  (j1:s.heap.IsListIter i1 l k) (j2:s.heap.IsTupleIter i2 t n) (hl:s.heap.IsList l xs) (ht:s.heap.IsTuple t ys) (hx:xs[k]?=some x) (hy:ys[n]?=some y)
  (q:∀h',IsZip h' z TI TO (rawInt s.heap.objs.size)->IsPair h' TO x y->h'.IsListIter i1 l (k+1)->h'.IsTupleIter i2 t (n+1)->IsPair h' s.heap.objs.size x y->(∀c o,c≠z->c≠TO->c≠i1->c≠i2->s.heap.get? c=some o->h'.get? c=some o)->Q (some (.ref s.heap.objs.size)) {s with heap:=h' }) :
  wpAny (model prog w) A (pyNext (.ref z)) Q E s:=by
 have ty:s.TypeIs (.ref z) "zip":=⟨_,z0,rfl⟩;unfold pyNext;refine q04 (wpAny_attempt (wpAny_callSpecial?_slot (name:=Str.ofString "__next__") ty F.slot_zip_next (wpAny_call_entry F.slot_zip_next ty F.entry_zip_next ?_ (F.args_zip_next_1 _))))
 show wpAny _ _ (field (.ref z) 2 >>= _) _ _ s;refine q04 (wpAny_field z0 rfl (x:=.bool false) rfl ?_)
 show wpAny _ _ (field (.ref z) 3 >>= _) _ _ s;refine q04 (wpAny_field z0 rfl (x:=.ref TI) rfl (q04 (wpAny_seqItems p0 rfl ?_)))
 show wpAny _ _ (Builtin.SmallTypes.ownedTupleIsFree (.ref z) >>= _) _ _ s;refine q04 ?_;unfold Builtin.SmallTypes.ownedTupleIsFree;refine q04 (wpAny_field z0 rfl (x:=.none) rfl (q05 ?_))
 simp only[if_true];refine q04 (wpAny_rule (q04 (wpAny_field z0 rfl (x:=.ref TO) rfl ?_)))
 refine q04 (wpAny_setField_rec z0 (by simp) λg1 M j=>?_);replace M:IsZip g1 z TI TO .ellipsis:=M
 refine q04 ?_;simp only[List.zipIdx_cons,List.zipIdx_nil,List.forIn_cons,List.forIn_nil];refine q04 (q04 (wpAny_onRaise ?_))
 show wpAny _ _ (Builtin.SmallTypes.nextOf (.ref i1) >>= _) _ _ _;refine q04 (wpAny_nextOf_list_item (j1.extBut j.extBut D.i1z) (hl.extBut j.extBut D.l1z) hx λg2 U u=>q05 ?_)
 have o2:IsPair g2 TO a b:=u.extBut _ _ D.TOi1 (j.extBut _ _ D.TOz o0);refine q04 (wpAny_seqItems o2 rfl (q04 (wpAny_updateSeq_pair o2 λg3 O p=>?_)));replace O:IsPair g3 TO x b:=O
 refine q04 (wpAny_letGo (q05 (q04 (q04 (wpAny_onRaise ?_)))));show wpAny _ _ (Builtin.SmallTypes.nextOf (.ref i2) >>= _) _ _ _;refine q04 (zS (((j2.extBut j.extBut D.i2z).extBut u.extBut D.i12.symm).extBut p.extBut D.TOi2.symm) (((ht.extBut j.extBut D.l2z).extBut u.extBut D.l2i1).extBut p.extBut D.l2TO) hy λg4 S B=>q05 ?_);have o4:IsPair g4 TO x b:=B.extBut _ _ D.TOi2 O;refine q04 (wpAny_seqItems o4 rfl (q04 (wpAny_updateSeq_pair o4 λg G v=>?_)));replace G:IsPair g TO x y:=G
 refine q04 (wpAny_letGo (q05 (q05 (q04 (wpAny_seqItems G rfl (q04 (wpAny_newTuple ?_)))))));have sz:g.objs.size=s.heap.objs.size:=by rw[v.1,B.1,p.1,u.1,j.1]
 have z5:IsZip g z TI TO .ellipsis:=v.extBut _ _ D.TOz.symm (B.extBut _ _ D.i2z.symm (p.extBut _ _ D.TOz.symm (u.extBut _ _ D.i1z.symm M)));have k5:∀c o,c≠z->c≠TO->c≠i1->c≠i2->s.heap.get? c=some o->g.get? c=some o:=λc o m J Z Y e=>v.extBut _ _ J (B.extBut _ _ Y (p.extBut _ _ J (u.extBut _ _ Z (j.extBut _ _ m e))));have T:g.IsListIter i1 l (k+1):=((U.extBut p.extBut D.TOi1.symm).extBut B.extBut D.i12).extBut v.extBut D.TOi1.symm;have R:g.IsTupleIter i2 t (n+1):=S.extBut v.extBut D.TOi2.symm;have zl:z<g.objs.size:=MX z5;show wpAny _ _ (Builtin.SmallTypes.ownedTupleHandOut (.ref z) (.ref g.objs.size) >>= _) _ _ _;refine q04 ?_;unfold Builtin.SmallTypes.ownedTupleHandOut
 have z6:IsZip (g.push {cls:=.type "tuple",data:=.seq #[x,y]}) z TI TO .ellipsis:=Mx _ z5;refine q04 (wpAny_setField_rec z6 (by simp) λg7 L s7=>?_);replace L:IsZip g7 z TI TO (rawInt g.objs.size):=L
 refine wpAny_setField_rec L (by simp) λI C s8=>?_;replace C:IsZip I z TI TO (rawInt g.objs.size):=C
 have up:∀c o,c≠z->g.get? c=some o->I.get? c=some o:=λc o m e=>s8.extBut _ _ m (s7.extBut _ _ m (Mx _ e));have t8:IsPair I g.objs.size x y:=s8.extBut _ _ (Nat.ne_of_gt zl) (s7.extBut _ _ (Nat.ne_of_gt zl) (MD _ rfl));rw[sz]at C t8;refine q05 ⟨_,rfl,q05 ?_⟩;show Q (some (.ref g.objs.size)) _;rw[sz];exact q I C (up _ _ D.TOz G) (T.at λo e=>up _ o D.i1z e) (let ⟨o,e,r⟩:=R;⟨o,up _ o D.i2z e,r⟩) t8 λc o m J Z Y e=>up c o m (k5 c o m J Z Y e)
theorem CW{z TI TO i1 l:Addr}{Q:Option Value->Shared->Prop}(hh:A.handled=none)(n1:i1≠z)(n2:l≠z)(n3:TO≠z)(z0:IsZip s.heap z TI TO .none)(p0:IsPair s.heap TI (.ref i1) (.ref i2))(o0:IsPair s.heap TO a b)
  (j1:s.heap.IsListIter i1 l k) (hl:s.heap.IsList l xs) (hx:xs[k]?=none) (q:∀h',(∀c o,c≠z->c≠TO->c≠i1->c≠i2->s.heap.get? c=some o->h'.get? c=some o)->Q none {s with heap:=h' }):wpAny (model prog w) A (pyNext (.ref z)) Q E s:=by
 have ty:s.TypeIs (.ref z) "zip":=⟨_,z0,rfl⟩;unfold pyNext;refine q04 (wpAny_attempt (wpAny_callSpecial?_slot (name:=Str.ofString "__next__") ty F.slot_zip_next (wpAny_call_entry F.slot_zip_next ty F.entry_zip_next ?_ (F.args_zip_next_1 _))))
 show wpAny _ _ (field (.ref z) 2 >>= _) _ _ s;refine q04 (wpAny_field z0 rfl (x:=.bool false) rfl ?_)
 show wpAny _ _ (field (.ref z) 3 >>= _) _ _ s;refine q04 (wpAny_field z0 rfl (x:=.ref TI) rfl (q04 (wpAny_seqItems p0 rfl ?_)))
 show wpAny _ _ (Builtin.SmallTypes.ownedTupleIsFree (.ref z) >>= _) _ _ s;refine q04 ?_;unfold Builtin.SmallTypes.ownedTupleIsFree;refine q04 (wpAny_field z0 rfl (x:=.none) rfl (q05 ?_))
 simp only[if_true];refine q04 (wpAny_rule (q04 (wpAny_field z0 rfl (x:=.ref TO) rfl ?_)))
 refine q04 (wpAny_setField_rec z0 (by simp) λJ m n=>?_);replace m:IsZip J z TI TO .ellipsis:=m
 refine q04 ?_;simp only[List.zipIdx_cons,List.zipIdx_nil,List.forIn_cons,List.forIn_nil];refine q04 (q04 (wpAny_onRaise ?_))
 show wpAny _ _ (Builtin.SmallTypes.nextOf (.ref i1) >>= _) _ _ _;refine q04 (wpAny_nextOf_list_end hh (j1.extBut n.extBut n1) (hl.extBut n.extBut n2) hx λI e y D=>?_)
 obtain⟨B,g,j⟩:=D;have r:IsZip I z TI TO .ellipsis:=y _ _ n1.symm m;have L:e≠z:=λu=>by subst u;rw[r]at g;cases g;simp at j
 refine wpAny_setField_rec r (by simp) λG _ v=>?_;have p:G.get? e=some B:=v.extBut _ _ L g;refine q04 (wpAny_isInstance (T:="StopIteration") (b:=true) ⟨B,p,j⟩ isSubtype_stop (q05 (q _ λc o C _ M _ u=>v.extBut _ _ C (y _ _ M (n.extBut _ _ C u)))))
def Ck(h:Heap)(l t:Addr):Heap:=((((h.push {cls:=.type "list_iterator",data:=.fields #[.ref l,.int 0 0]}).push {cls:=.type "tuple_iterator",data:=.fields #[.ref t,.int 0 0]}).push {cls:=.type "tuple",data:=.seq #[.ref h.objs.size,.ref (h.objs.size+1)]}).push {cls:=.type "tuple",data:=.seq #[.none,.none]}).push {cls:=.type "zip",data:=.fields #[.none,.bool false,.bool false,.ref (h.objs.size+2),.ref (h.objs.size+3)]}
theorem xF(l t:Addr)(xs ys:Array Value):Meets (Builtin.«zip.__new__» ⟨[.type "zip",.ref l,.ref t],[]⟩) (λ_ R s=>s.heap.IsList l xs/\s.heap.IsTuple t ys/\R (.ok (.ret (.ref (s.heap.objs.size+4)))) {s with heap:=Ck s.heap l t}):=
 .of_wp λprog w A R s h=>by
  obtain⟨hp,g,d,tk,os⟩:=s;obtain⟨h1,h2,h⟩:=h
  have hsub:isSubtype (.type "zip") (.type "zip")=pure true:=by rw[isSubtype_type];kernel_rfl
  have b:Heap.IsList (Shared.heap ⟨hp,g,d,tk,os⟩) l xs:=h1;have a:Heap.IsTuple (Shared.heap ⟨hp.push {cls:=.type "list_iterator",data:=.fields #[.ref l,.int 0 0]},g,d,tk,os⟩) t ys:=Heap.IsTuple.push h2 _
  wp_walk using wpAny_pyIter_list b,wpAny_pyIter_tuple a
  refine⟨_,rfl,?_⟩;simp only[Heap.size_push]at *;exact h
theorem Ah{t:Addr}{Q:Nq}(hl:s.heap.IsList l xs)(ht:s.heap.IsTuple t ys)
  (q:∀h',IsZip h' (s.heap.objs.size+4) (s.heap.objs.size+2) (s.heap.objs.size+3) .none->IsPair h' (s.heap.objs.size+2) (.ref s.heap.objs.size) (.ref (s.heap.objs.size+1))->IsPair h' (s.heap.objs.size+3) .none .none->h'.IsListIter s.heap.objs.size l 0->h'.IsTupleIter (s.heap.objs.size+1) t 0->(∀c o,s.heap.get? c=some o->h'.get? c=some o)->Q (.ref (s.heap.objs.size+4)) {s with heap:=h' }) :
  wpAny (model prog w) A (call (.type "zip") [.ref l,.ref t]) Q E s:=by
 refine callType_new F.called_zip nofun (F.typeCall_zip_2 _ _) (F.newCall_zip_2 _ _) (λobj=>F.args_object_init_3 obj _ _) F.entry_zip_new (xF l t xs ys) ⟨hl,ht,?_⟩;have a:∀{h:Heap} {n:Nat} {o:Obj},h.objs.size=n->o.isFreed=false->(h.push o).get? n=some o:=λe f=>by rw[<- e];exact MD _ f
 have up:=fun{h:Heap} {c:Addr} {u:Obj} (o:Obj) (e:h.get? c=some u)=>Mx o e;have b:(Ck s.heap l t).get? (s.heap.objs.size+4)=some _:=a (by simp only[Heap.size_push]) rfl;have g:(Ck s.heap l t).get? (s.heap.objs.size+3)=some _:=up _ (a (by simp only[Heap.size_push]) rfl);have j:(Ck s.heap l t).get? (s.heap.objs.size+2)=some _:=up _ (up _ (a (by simp only[Heap.size_push]) rfl));have k:(Ck s.heap l t).get? (s.heap.objs.size+1)=some _:=up _ (up _ (up _ (a (by simp only[Heap.size_push]) rfl)));have m:(Ck s.heap l t).get? s.heap.objs.size=some _:=up _ (up _ (up _ (up _ (a rfl rfl))));exact⟨⟨_,b,rfl⟩,q _ b j g ⟨_,m,rfl,rfl⟩ ⟨_,k,rfl,rfl⟩ λc o u=>up _ (up _ (up _ (up _ (up _ u))))⟩
end
def HD(K:Nr)(a b:Addr):It:=
 ⟨λi H=>∃xs ys x y,aT K H a xs/\aV K H b ys/\xs[i]?=some x/\ys[i]?=some y,λi H v H'=>∃T x y,v=.ref T/\H T=none/\H'=aC H T (.tup [x,y])/\(∀xs,aT K H a xs->xs[i]?=some x)/\∀ys,aV K H b ys->ys[i]?=some y,
  λi H=>∃xs,aT K H a xs/\xs.length<=i⟩
theorem Bh{K:Nr}{elts:NH}{tp:Pos}{z TI TO:Addr}(D:ZipApart z TI TO i1 i2 l1 l2) :
  rP P w K (.Tuple elts x1 tp) (HD K l1 l2) [z,TI,TO,i1,i2] z (λi h=>IsZip h z TI TO .none/\IsPair h TI (.ref i1) (.ref i2)/\(∃a b,IsPair h TO a b)/\h.IsListIter i1 l1 i/\h.IsTupleIter i2 l2 i) where
 mem:=by simp
 obj:=λi h n b G=>by
  obtain⟨p,g,⟨a,c,j⟩,⟨o1,e1,c1,d1⟩,⟨T,S,c2,d2⟩⟩:=n;simp only[MM,List.not_mem_nil,or_false]at G;rcases G with rfl | rfl | rfl | rfl | rfl
  ·exact⟨_,p,λv q=>by cases q⟩
  ·exact⟨_,g,λv q=>by cases q⟩
  ·exact⟨_,j,λv q=>by cases q⟩
  ·exact⟨_,e1,λv q=>by rw[d1]at q;cases q⟩
  ·exact⟨_,S,λv q=>by rw[d2]at q;cases q⟩
 keep:=λi h h' n m=>by
  obtain⟨p,g,⟨a,b,j⟩,h1,⟨T,S,r2⟩⟩:=n;exact⟨m z (by simp) _ p,m TI (by simp) _ g,⟨a,b,m TO (by simp) _ j⟩,h1.at λo e=>m i1 (by simp) o e,⟨T,m i2 (by simp) T S,r2⟩⟩
 item:=by
  intro X hP hw hK l i J s σ H E I hf n hg;subst hP hw hK;obtain⟨xs,ys,x,y,r,O,hx,hy⟩:=hg;obtain⟨M,u,p1,a7⟩:=I.list r;obtain⟨L,Z,p2,hz2⟩:=I.tuple O;obtain⟨Y,b0,a6⟩:=u.get hx;obtain⟨U,a9,a0⟩:=Z.get hy;obtain⟨p,g,⟨a,b,j⟩,h1,h2⟩:=n;refine Aa D p g j h1 h2 p1.isList (show s.heap.IsTuple l2 L.toArray from p2) (x:=Y) (y:=U) (by simpa using b0) (by simpa using a9) λh' a1 a2 a3 a4 a5 m=>?_;refine⟨_,rfl,wpAny_letOwnedTupleGo_zip a1 λR a8 k=>?_⟩;have C:H s.heap.objs.size=none:=I.hok.fresh (MU _);have lt:∀{c o},s.heap.get? c=some o->s.heap.objs.size≠c:=λe=>Nat.ne_of_gt (MX e);have kk:∀c o,c∉[z,TI,TO,i1,i2]->s.heap.get? c=some o->R.get? c=some o:=λc o l e=>
   k.extBut _ _ (λq=>l (by simp[q])) (m c o (λq=>l (by simp[q])) (λq=>l (by simp[q])) (λq=>l (by simp[q])) (λq=>l (by simp[q])) e)
  have hT:R.get? s.heap.objs.size=some {cls:=.type "tuple",data:=.seq #[Y,U]}:=k.extBut _ _ (lt p) a5;refine⟨.ref s.heap.objs.size,aC H s.heap.objs.size (.tup [x,y]),I.movedT (tk:=s.toks) hf kk (MU _) ⟨show 2<=sizeLine from by decide +kernel,[Y,U],.cons a6 (.cons a0 .nil),_,hT,rfl,_,rfl⟩,rfl,
   ⟨_,x,y,rfl,C,rfl,λzs B=>by rw[I.list_inj B r];exact hx,λzs B=>by rw[I.tuple_inj B O];exact hy⟩,
   ⟨a8,k.extBut _ _ D.TIz (m _ _ D.TIz D.TITO D.TIi1 D.TIi2 g),⟨_,_,k.extBut _ _ D.TOz a2⟩,a3.extBut k.extBut D.i1z,a4.extBut k.extBut D.i2z⟩,λb G=>?_⟩
  have b1:b≠s.heap.objs.size:=by
   obtain⟨o1,e1,_⟩:=h1;obtain⟨T,S,_⟩:=h2;simp only[MM,List.not_mem_nil,or_false]at G;rcases G with rfl | rfl | rfl | rfl | rfl
   ·exact(lt p).symm
   ·exact(lt g).symm
   ·exact(lt j).symm
   ·exact(lt e1).symm
   ·exact(lt S).symm
  rw[aq b1];exact(hf b G).1
 done:=by
  intro X hP hw hK l i J s σ H E I hf n hg;subst hP hw hK;obtain⟨xs,r,hx⟩:=hg;obtain⟨M,u,p1,a7⟩:=I.list r;obtain⟨p,g,⟨a,b,j⟩,h1,h2⟩:=n;have l1':=u.length;exact CW (I.ok.hd l) D.i1z D.l1z D.TOz p g j h1 p1.isList (by simp;omega) λh' m=>⟨rfl,I.moved (tk:=s.toks) hf λc o l e=>m c o (λq=>l (by simp[q])) (λq=>l (by simp[q])) (λq=>l (by simp[q])) (λq=>l (by simp[q])) e⟩
 self:=λ_ _ _ _ _ n h=>wpAny_pyIter_zip n.1 h
section
variable {X:Cx}{elts:NH}{x1:Nat}{tp:Pos}
def El(K:Nr)(ta:TA):TI:=λσ H R=>ta σ H λvs H1=>∃a b xs ys,vs=[.ref a,.ref b]/\aT K H1 a xs/\aV K H1 b ys/\R (HD K a b) H1
theorem FY{a b:Expr}{ta:TA}{p pos:Pos}(hg:Gl X "zip")(hm:X.mg "zip"=none)(ha:PA X [a,b] ta)(hs:autoParam (starEach [a,b] X.env=[(false,eval a X.env),(false,eval b X.env)]) zz0._auto_1)(hs2:autoParam (starEach [b] X.env=[(false,eval b X.env)]) zz0._auto_1):PI X (.Tuple elts x1 tp) (.Call (.Name "zip" p) [a,b] [] pos) (El X.K ta):=by
 intro g s σ H R I h;refine Call_ (fP I hg hm boot_zip (PyProof.Rows.callWith_type1 (bZ (ha pos g s σ H _ I h) λus c ⟨vs,B,l,O,S⟩=>?_) (by rw[hs,hs2]) (by rw[hs2];rfl)));obtain⟨l1,l2,xs,ys,rfl,r,o,q⟩:=S;obtain⟨u,v,rfl,M,L⟩:=O.two;cases M;cases L;obtain⟨its1,rv1,x,_⟩:=l.list r;obtain⟨j,rv2,T,_⟩:=l.tuple o;have pt:c.heap.IsTuple l2 j.toArray:=T;refine Ah x.isList pt λY w J G D C U=>?_;have n:l1<c.heap.objs.size:=by obtain⟨_,e,_⟩:=x.isList;exact MX e
 have m:l2<c.heap.objs.size:=by obtain⟨_,e,_⟩:=pt;exact MX e
 have Z:Inv X g σ B {c with heap:=Y }:=l.kept (t':=c.toks) U;refine wpAny_pyIter_zip w ?_;refine⟨c.heap.objs.size+4,[c.heap.objs.size+4,c.heap.objs.size+2,c.heap.objs.size+3,c.heap.objs.size,c.heap.objs.size+1],_,_,B,rfl,Z,Bh (l1:=l1) (l2:=l2) ?_,⟨w,J,⟨_,_,G⟩,D,C⟩,λb y=>?_,q⟩
 ·exact uv _ _ _ n m
 ·have k:c.heap.objs.size<=b:=by
   simp only[MM,List.not_mem_nil,or_false]at y;rcases y with e | e | e | e | e<;>(rw[e];first | exact MU _ | exact Nat.le_add_right _ _)
  exact l.fpOk k (l.hok.fresh k)
end
section
variable {K:Nr}{g:TG}{tb:TS}{D:iT}{σ:St}{H:Hp}
theorem CB{xs ys:List V}(hlen:xs.length<=ys.length)(Pv:Nat->St->Hp->Prop)(h0:Pv 0 σ H)(hl:∀i σ H,i<=xs.length->Pv i σ H->aT K H a xs/\aV K H b ys)
  (hs:∀i x y σ H T,xs[i]?=some x->ys[i]?=some y->Pv i σ H->H T=none->g (.ref T) σ (aC H T (.tup [x,y])) λσ2 H2=>tb {D with nx:=Pv (i+1),ct:=Pv (i+1),bk:=D.nx} σ2 H2) (hd:∀σ H,Pv xs.length σ H->D.nx σ H):vJ (HD K a b) g tb D σ H:=by
 refine⟨λi m σ H=>Pv i σ H/\i<=xs.length/\m=xs.length+1-i,⟨_,h0,MV _,rfl⟩,?_⟩;rintro i m σ' r ⟨w,p,rfl⟩;obtain⟨e,j⟩:=hl _ _ _ p w;rcases Nat.lt_or_ge i xs.length with c | hge
 ·refine .inr ⟨⟨xs,ys,xs[i],ys[i]'⋯,e,j,Mv c,Mv ⋯⟩,Pv (i+1),λσ2 H2 w2=>⟨xs.length+1-(i+1),⋯,w2,c,rfl⟩,λx H2 y=>?_⟩
  obtain⟨T,l,k,rfl,q,rfl,o,n⟩:=y;exact hs i l k σ' r T (o xs e) (n ys j) w q
 ·have:i=xs.length:=by omega
  subst this;exact .inl ⟨⟨xs,e,MU _⟩,hd _ _ w⟩
end
inductive TrD:Dt->Prop
 |mk (i:Int) (ds:List Dt):(∀d∈ds,TrD d)->TrD (.tup (.int i::ds))
end L2
namespace L2
open PySem PySem.Spec PyProof.Rows QL PySem.Builtin PySem.Builtin.Str
theorem xb{H H':Hp}(h:H l=none)(e:aC H l o=H'):aE H H'/\H' l=some o:=by subst e;exact⟨ae h,ad⟩
end L2
namespace TL
open PySem PySem.Spec PyProof.Rows L2
section
variable {prog:NC}{w:NF}{A:NE}{E:Nq}{s:Nv}
def GV(prog:NC)(w:NF)(A:NE)(s:Nv)(fin:Bool)(Q:Bool->Prop):List (Value×Value)->Prop
 | []=>Q fin
 | (x,y)::r=>(∀(E:Nq) (K:Bool->Shared->Prop),K true s->wpAny (model prog w) A (eqBool x y) K E s)/\GV prog w A s fin Q r \/
   (∀(E:Nq) (K:Bool->Shared->Prop),K false s->wpAny (model prog w) A (eqBool x y) K E s)/\∃b,(∀(E:Nq) (K:Nq),K (.bool b) s->wpAny (model prog w) A (richCompare .Lt x y) K E s)/\Q b
theorem Ga{a b:Addr}{o o2:Obj}(ho:s.heap.get? a=some o)(hc:o.cls=.type "tuple")(hd:o.data=.seq xs n)(ho2:s.heap.get? b=some o2)(hc2:o2.cls=.type "tuple")(hd2:o2.data=.seq ys n2)
  {R:PySem.Fin->Shared->Prop} (h:GV prog w A s (decide (xs.size<ys.size)) (λv=>R (.done (.ret (.bool v))) s) (xs.toList.zip ys.toList)) :
  wpAny (model prog w) A (Builtin.«tuple.__lt__» ⟨[.ref a,.ref b],[]⟩) R E s:=by
 have j:s.TypeIs (.ref b) "tuple":=⟨_,ho2,hc2⟩;unfold Builtin.«tuple.__lt__»;refine q04 (q05 ?_);refine q04 (wpAny_isInstance (T:="tuple") (b:=true) j (by rw[isSubtype_type];kernel_rfl) ?_);rw[q06 nofun];refine q04 (wpAny_tupleItemsOf ho hd ?_);refine q04 (wpAny_tupleItemsOf ho2 hd2 ?_);refine q04 ?_;refine wpAny_forIn_list _ (λcy r g=>g=s/\r=(none,())/\GV prog w A s (decide (xs.size<ys.size)) (λv=>R (.done (.ret (.bool v))) s) cy) _ ?_ ?_ _ _ ⟨rfl,rfl,h⟩
 ·rintro⟨x,y⟩ cy r g ⟨rfl,rfl,c⟩
  rcases c with⟨e,c⟩ | ⟨e,bb,lt,q⟩
  ·refine q04 (e _ _ ?_)
   rw[q06 nofun];exact q05 ⟨rfl,rfl,c⟩
  ·refine q04 (e _ _ ?_)
   rw[q07 nofun];refine q04 (wpAny_rule ?_);refine q04 (lt _ _ ?_);refine q04 (q05 ?_);exact q05 (q05 q)
 ·rintro r g ⟨rfl,rfl,c⟩
  exact q05 c
theorem FM{Q:Nq}(ha:s.heap.IsTuple a xs)(hb:s.heap.IsTuple b ys)(hu:A.units<cLine)
  (h:∃v,GV prog w A.in1 s (decide (xs.size<ys.size)) (λu=>u=v) (xs.toList.zip ys.toList)/\Q (.bool v) s):wpAny (model prog w) A (richCompare .Lt (.ref a) (.ref b)) Q E s:=by
 obtain⟨o,j,m,n,y⟩:=ha;obtain⟨o2,c,g,n2,k⟩:=hb;obtain⟨v,r,q⟩:=h;refine wpAny_richCompare_same_room (T:="tuple") ⟨_,j,m⟩ ⟨_,c,g⟩ PySem.F.slot_tuple_lt (wpAny_call_entry PySem.F.slot_tuple_lt ⟨_,j,m⟩ PySem.F.entry_tuple_lt ?_ (PySem.F.args_tuple_lt_2 _ _)) hu;have mono:∀l,GV prog w A.in1 s (decide (xs.size<ys.size)) (λu=>u=v) l->GV prog w A.in1 s (decide (xs.size<ys.size)) (λu=>∃z,PySem.Fin.done (.ret (.bool u))=PySem.Fin.done (.ret z)/\(z≠.notImplemented/\Q z s)) l:=by
  intro l
  induction l with
  |nil=>intro e;exact⟨_,rfl,(λx=>nomatch x),by have e:decide (xs.size<ys.size)=v:=e;rw[e];exact q⟩
  |cons p l ih=>
   rintro(⟨e,h⟩ | ⟨e,b,h,rfl⟩)
   ·exact .inl ⟨e,ih h⟩
   ·exact .inr ⟨e,b,h,_,rfl,(λx=>nomatch x),q⟩
 exact Ga j m y c g k (mono _ r)
def Ih(prog:NC)(w:NF)(A:NE)(s:Nv):List (Value×Value)->Prop
 | []=>False
 | (x,y)::r=>(∀(E:Nq) (K:Bool->Shared->Prop),K true s->wpAny (model prog w) A (eqBool x y) K E s)/\Ih prog w A s r \/
   (∀(E:Nq) (K:Bool->Shared->Prop),K false s->wpAny (model prog w) A (eqBool x y) K E s)
theorem FV{a b:Addr}{o o2:Obj}(ho:s.heap.get? a=some o)(hc:o.cls=.type "tuple")(hd:o.data=.seq xs n)(ho2:s.heap.get? b=some o2)(hc2:o2.cls=.type "tuple")(hd2:o2.data=.seq ys n2)
  {R:PySem.Fin->Shared->Prop} (h:Ih prog w A s (xs.toList.zip ys.toList)) (q:R (.done (.ret (.bool false))) s) :
  wpAny (model prog w) A (Builtin.«tuple.__eq__» ⟨[.ref a,.ref b],[]⟩) R E s:=by
 have j:s.TypeIs (.ref b) "tuple":=⟨_,ho2,hc2⟩;unfold Builtin.«tuple.__eq__»;refine q04 (q05 ?_);refine q04 (wpAny_isInstance (T:="tuple") (b:=true) j (by rw[isSubtype_type];kernel_rfl) ?_);rw[q06 nofun];refine q04 (wpAny_tupleItemsOf ho hd ?_);refine q04 (wpAny_tupleItemsOf ho2 hd2 ?_);refine q04 ?_;refine wpAny_forIn_list _ (λcy r g=>g=s/\r=(none,())/\Ih prog w A s cy) _ ?_ ?_ _ _ ⟨rfl,rfl,h⟩
 ·rintro⟨x,y⟩ cy r g ⟨rfl,rfl,c⟩
  rcases c with⟨e,c⟩ | e
  ·refine q04 (e _ _ ?_)
   rw[q06 nofun];exact q05 ⟨rfl,rfl,c⟩
  ·refine q04 (e _ _ ?_)
   rw[q07 nofun];refine q04 (q05 ?_);exact q05 (q05 q)
 ·rintro r g ⟨rfl,rfl,c⟩
  exact c.elim
theorem GC{Q:Nq}(ha:s.heap.IsTuple a xs)(hb:s.heap.IsTuple b ys)(hu:A.units<cLine)
  (h:Ih prog w A.in1 s (xs.toList.zip ys.toList)) (q:Q (.bool false) s):wpAny (model prog w) A (richCompare .Eq (.ref a) (.ref b)) Q E s:=by
 obtain⟨o,g,k,n,l⟩:=ha;obtain⟨o2,c,e,n2,j⟩:=hb;exact wpAny_richCompare_same_room (T:="tuple") ⟨_,g,k⟩ ⟨_,c,e⟩ PySem.F.slot_tuple_eq (wpAny_call_entry PySem.F.slot_tuple_eq ⟨_,g,k⟩ PySem.F.entry_tuple_eq (FV g k l c e j h ⟨_,rfl,(λx=>nomatch x),q⟩) (PySem.F.args_tuple_eq_2 _ _)) hu
theorem At:∀{xs ys:Nw} {r:List (Value×Value)},xs.length=ys.length->(∀p∈xs.zip ys,∀(E:Nq) (K:Bool->Shared->Prop),K true s->wpAny (model prog w) A (eqBool p.1 p.2) K E s)->Ih prog w A s r->Ih prog w A s (xs.zip ys++r)
 | [],[],_,_,_,h=>h
 | [],_::_,_,e,_,_=>nomatch e
 |_::_,[],_,e,_,_=>nomatch e
 |x::xs,y::ys,r,e,h,hr=>.inl ⟨h (x,y) q0B,At (by simpa using e) (λp hp=>h p (MN _ hp)) hr⟩
theorem Aq{f:Bool}:∀{xs ys:Nw} {r:List (Value×Value)},xs.length=ys.length->(∀p∈xs.zip ys,∀(E:Nq) (K:Bool->Shared->Prop),K true s->wpAny (model prog w) A (eqBool p.1 p.2) K E s)->GV prog w A s f Q r->GV prog w A s f Q (xs.zip ys++r)
 | [],[],_,_,_,h=>h
 | [],_::_,_,e,_,_=>nomatch e
 |_::_,[],_,e,_,_=>nomatch e
 |x::xs,y::ys,r,e,h,hr=>.inl ⟨h (x,y) q0B,Aq (by simpa using e) (λp hp=>h p (MN _ hp)) hr⟩
inductive LtK:Dt->Dt->Prop
 |int {i j:Int}:i<j->LtK (.int i) (.int j)
 |at(pre ds es:List Dt) {d e:Dt}:LtK d e->LtK (.tup (pre++d::ds)) (.tup (pre++e::es))
theorem LtK.ne{d:Dt}(h:LtK d e):d≠e:=by
 induction h with
 |int h=>intro e;cases e;omega
 | «at» pre ds es _ ih=>
  intro h;have h:=Dt.tup.inj h;have h:=List.append_cancel_left h;exact ih (List.cons.inj h).1
end
section
variable {X:Cx}{pins:Nt}{σ:L2.St}{H:Hp}{s:Nv}
mutual
theorem EY:∀(d:Dt) {e:Dt} {v:V},bg H d v->bg H e v->d=e
 | .int i,e,v,h1,h2=>by
  unfold bg at h1;subst h1
  cases e with
  |int j=>unfold bg at h2;cases h2;rfl
  |tup es=>unfold bg at h2;obtain⟨a,xs,e,_⟩:=h2;cases e
  |_=>unfold bg at h2;exact h2.elim
 | .tup ds,e,v,h1,h2=>by
  unfold bg at h1;obtain⟨a,xs,rfl,ha,hx⟩:=h1;cases e with
  |int j=>unfold bg at h2;cases h2
  |tup es=>
   unfold bg at h2;obtain⟨a',ys,e,hb,hy⟩:=h2;cases e;rw[ha]at hb;cases hb;rw[oG ds hx hy]
  |_=>unfold bg at h2;exact h2.elim
 | .non,_,_,h,_=>by unfold bg at h;exact h.elim
 | .bl b,_,_,h,_=>by unfold bg at h;exact h.elim
 | .str x,_,_,h,_=>by unfold bg at h;exact h.elim
 | .lst ds,_,_,h,_=>by unfold bg at h;exact h.elim
theorem oG:∀(ds:List Dt) {es:List Dt} {xs:List V},aP H ds xs->aP H es xs->ds=es
 | [],es,xs,h1,h2=>by
  unfold aP at h1;subst h1
  cases es with
  |nil=>rfl
  |cons e es=>obtain⟨x,r,e,_⟩:=h2.uncons;cases e
 |d::ds,es,xs,h1,h2=>by
  obtain⟨x,r,rfl,a1,a2⟩:=h1.uncons;cases es with
  |nil=>unfold aP at h2;cases h2
  |cons e es=>
   obtain⟨y,r',e',b1,b2⟩:=h2.uncons;cases e';rw[EY d a1 b1,oG ds a2 b2]
end
theorem kh{d:Dt}{ds:List Dt}:∀{pre:List Dt} {xs:List V},aP H (pre++d::ds) xs->∃xp x0 xr,xs=xp++x0::xr/\aP H pre xp/\bg H d x0
 | [],xs,h=>by
  obtain⟨x,r,rfl,h1,_⟩:=h.uncons;exact⟨[],x,r,rfl,aP.nil,h1⟩
 |d'::pre,xs,h=>by
  obtain⟨x,r,rfl,h1,h2⟩:=aP.uncons (ds:=pre++d::ds) h;obtain⟨xp,x0,xr,rfl,h3,h4⟩:=kh h2;exact⟨x::xp,x0,xr,rfl,aP.cons h1 h3,h4⟩
theorem mW:∀{xp:List V} {x0:V} {xr:List V} {its:Nw},bq (xp++x0::xr) its->∃ip i0 ir,its=ip++i0::ir/\bq xp ip/\bv x0 i0
 | [],_,_,_,.cons q r=>⟨[],_,_,rfl,.nil,q⟩
 |x::xp,x0,xr,_,.cons q r=>by
  obtain⟨ip,i0,ir,rfl,h1,h2⟩:=mW r;exact⟨_::ip,i0,ir,rfl,.cons q h1,h2⟩
theorem DH(I:Inv X pins σ H s){n:Nat}{A:NE}(hu:A.units+n<cLine):∀{pre:List Dt} {xp yp:List V} {ip jp:Nw},Dt.deps pre<=n->aP H pre xp->aP H pre yp->bq xp ip->bq yp jp->ip.length=jp.length/\∀p∈ip.zip jp,SeqAt.EqAt A s p.1 p.2 true
 | [],xp,yp,ip,jp,_,h1,h2,r1,r2=>by
  unfold aP at h1 h2;subst h1 h2;cases r1;cases r2
  exact⟨rfl,λp hp=>nomatch hp⟩
 |d::pre,xp,yp,ip,jp,hd,h1,h2,r1,r2=>by
  obtain⟨x,xr,rfl,a1,a2⟩:=h1.uncons;obtain⟨y,yr,rfl,b1,b2⟩:=h2.uncons;cases r1 with
  |cons q1 r1=>
   cases r2 with
   |cons q2 r2=>
    have hdd:d.dep<=n/\Dt.deps pre<=n:=by
     have:Dt.deps (d::pre)=max d.dep (Dt.deps pre):=by rw[Dt.deps]
     omega
    obtain⟨l,h⟩:=DH I hu hdd.2 a2 b2 r1 r2;refine⟨by simp[l],λp hp=>?_⟩;rcases MM.mp hp with rfl | hp
    ·exact zA I n d A hdd.1 hu (bg.rd (K:=X.K) _ a1) (bg.rd (K:=X.K) _ b1) q1 q2
    ·exact h p hp
set_option tactic.hygienic true in
theorem Hd(I:Inv X pins σ H s){d e:Dt}(h:LtK d e):∀(n:Nat) (A:NE) {x y:V} {v u:Value},d.dep<=n->A.units+2*n+2<cLine->bg H d x->bg H e y->bv x v->bv y u ->
  SeqAt.EqAt A s v u false/\∀(prog:NC) (w:NF) (E K:Nq),K (.bool true) s->wpAny (model prog w) A (richCompare .Lt v u) K E s:=by
 induction h with
 | @int i j h=>
  intro n A x y v u _ _ h1 h2 r1 r2;unfold bg at h1 h2;subst h1 h2;obtain⟨t,rfl⟩:=r1;obtain⟨t',rfl⟩:=r2;refine⟨λprog w E Q hq=>wpAny_eqBool_int (by rw[show(i==j)=false by simp;omega];exact hq),λprog w E K hK=>?_⟩;exact wpAny_richCompare_same (typeIs_int s i t) (typeIs_int s j t') slot_int_lt (call_int_lt ⟨(λq=>nomatch q),by rw[q09 h];exact hK⟩)
 | «at» pre ds es hde ih=>
  rename_i d e;intro n A x y v u hn hu h1 h2 r1 r2;have hne:Dt.tup (pre++d::ds)≠Dt.tup (pre++e::es):=(LtK.at pre ds es hde).ne;unfold bg at h1 h2;obtain⟨a,xs,rfl,ha,hxs⟩:=h1;obtain⟨b,ys,rfl,hb,hys⟩:=h2;cases r1;cases r2
  obtain⟨its,ra,pa,_⟩:=I.tuple (aV.of ha);obtain⟨jts,rb,pb,_⟩:=I.tuple (aV.of hb);obtain⟨xp,x0,xr,rfl,c1,c2⟩:=kh hxs;obtain⟨yp,y0,yr,rfl,c3,c4⟩:=kh hys;obtain⟨ip,i0,ir,rfl,e1,e2⟩:=mW ra;obtain⟨jp,j0,jr,rfl,e3,e4⟩:=mW rb;have hdeps:∀l:List Dt,Dt.dep (.tup l)=Dt.deps l+1:=λl=>by rw[Dt.dep]
  have hap:∀l:List Dt,Dt.deps l<=Dt.deps (l++d::ds)/\d.dep<=Dt.deps (l++d::ds):=by
   intro l
   induction l with
   |nil=>
    have:Dt.deps (d::ds)=max d.dep (Dt.deps ds):=by rw[Dt.deps]
    have h0:Dt.deps []=0:=by rw[Dt.deps]
    constructor
    ·rw[h0];exact MV _
    ·show d.dep<=Dt.deps (d::ds);omega
   |cons y l ih=>
    have h1:Dt.deps (y::l)=max y.dep (Dt.deps l):=by rw[Dt.deps]
    have h2:Dt.deps (y::(l++d::ds))=max y.dep (Dt.deps (l++d::ds)):=by rw[Dt.deps]
    constructor
    ·show Dt.deps (y::l)<=Dt.deps (y::(l++d::ds));omega
    ·show d.dep<=Dt.deps (y::(l++d::ds));omega
  obtain⟨p1,p2⟩:=hap pre;rw[hdeps]at hn;have hin:A.in1.units=A.units+1:=rfl;obtain⟨hl,he⟩:=DH I (n:=n) (A:=A.in1) ⋯ ⋯ c1 c3 e1 e3;obtain⟨f1,f2⟩:=ih (n-1) A.in1 ⋯ ⋯ c2 c4 e2 e4;have ez:(ip++i0::ir).toArray.toList.zip (jp++j0::jr).toArray.toList=ip.zip jp++(i0,j0)::ir.zip jr:=by
   rw[List.toList_toArray,List.toList_toArray,List.zip_append hl,List.zip_cons_cons]
  have hab:a≠b:=λe=>by
   subst e;rw[ha]at hb;have hx:=HO.tup.inj (q0P hb);rw[<- hx]at hys;exact hne (q0O Dt.tup (oG _ hxs hys))
  refine⟨SeqAt.EqAt.of_refs hab λprog w E Q hq=>GC pa pb ⋯ (by rw[ez];exact At hl (λp hp E K hK=>he p hp prog w E K hK) (.inr λE K hK=>f1 prog w E K hK)) hq,λprog w E K hK=>FM pa pb ⋯ ⟨true,by rw[ez];exact Aq hl (λp hp E K hK=>he p hp prog w E K hK) (.inr ⟨λE K hK=>f1 prog w E K hK,true,λE K hK=>f2 prog w E K hK,rfl⟩),hK⟩⟩
end
end TL
namespace L2
open PySem PySem.Spec PyProof.Rows TL
def Hk:R2:=λx y H Q=>∃d e,LtK d e/\d.dep<=60/\bg H d x/\bg H e y/\Q (.bl true) H
theorem G_{X:Cx}(hu:X.A.units+210<cLine):br X (compareOp .Lt) Hk:=by
 intro pins s σ H x y v u Q I rx ry h;obtain⟨d,e,a,b,h1,h2,q⟩:=h;exact(Hd I a 60 X.A b ⋯ h1 h2 rx ry).2 _ _ _ _ ⟨.bl true,H,I,rfl,q⟩
end L2
set_option maxHeartbeats 4000000
namespace Q34
open PySem L2 bH QL
local macro_rules|`(tactic|ext)=>do
 let f(s:String):Lean.MacroM _:=(s.splitOn ",").toArray.mapM λx=>let i:=Lean.mkIdent (x.splitOn "."|>.foldl .mkStr .anonymous);`(Lean.Parser.Tactic.simpLemma|$i:term)
 let g(s:String):Lean.MacroM _:=(s.splitOn ",").toArray.mapM λx=>let i:=Lean.mkIdent (x.splitOn "."|>.foldl .mkStr .anonymous);`(Lean.Parser.Tactic.simpLemma|↓$i:term)
 let c:="Ch,tB,Ff,Fp,Ha,EX,Es,yR,BR,EL,AN,FT,tC,Ii,wS,G7,HB,JB,DM,Fk,vw,wc,wj,wF,DC,Hn,HM,Al,wx,EC,Ad,Hj,HE,El,Du,Hr,F7,AQ,tU,vI,Ew,Ds,zj,G',Ib,wt,Ed,sF,Fc,vh,G9,Hh,Hk,Jb,r_,vR,pO,JH,FW,HR,Jm,Jn,G5,Jo,wo,Dp,HZ,HY,Je,JD,AK,vF,Gj,EV,Fq,Em,Hb,Hq,Hu,AV,DJ,ux,Av,L2.start,M4,List.map_nil,MI,List.length_nil,List.replicate,List.cons_append,Nj,Nat.reduceAdd,Nat.reduceSub,List.getElem?_cons_zero,M3,List.set_cons_zero,List.set_cons_succ,gS,Cx.blk,mI,yZ,Ei,E6,Cx.wish,Cx.nox,Ja,l8";let d<-f (c++",Lz,Mm,Kl,LK,Ly,Kz,K9,Ln,Gc,G6,E4,Ea");let e<-f (c++",M8,Option.some.injEq,V.int.injEq,V.str.injEq,V.ref.injEq,V.bl.injEq,List.cons.injEq,and_true,true_and,exists_and_left,exists_eq_left',exists_eq_left,decide_eq_true_eq,Bool.not_eq_true',decide_eq_false_iff_not,F5,Option.join_some,Nat.succ_eq_add_one,Nat.zero_add,exists_const,and_assoc,exists_eq,exists_eq',Int.reducePow,Int.reduceNeg,Int.reduceLT,or_true,true_or,reduceCtorEq,Int.zero_add,Bool.false_eq_true,Bool.not_true,Bool.not_false,DK,GW,AJ,Aw,Bb,BY,BD,BG,rI");let h<-g "reduceIte,Jp,Ju,Jk,JI,JA,Jq,Jl,Jv";let e:=e++h
 `(tactic|((try dsimp only[$d,*]);(try simp only[$e,*])))
set_option hygiene false in
local macro_rules|`(tactic|grind)=>`(tactic|(clear h1;refine ak λN1 h1=>?_;ext))
set_option hygiene false in
local macro_rules|`(tactic|symm)=>`(tactic|(refine ak λN1 h1=>?_;ext))
set_option hygiene false in
local macro_rules|`(tactic|walk_at "oc")=>`(tactic|(clear h2;refine ak λN2 h2=>?_;ext))
set_option hygiene false in
local macro_rules|`(tactic|ac_nf)=>`(tactic|(refine ak λN2 h2=>?_;ext))
set_option hygiene false in
local macro_rules|`(tactic|walk_at "f")=>`(tactic|refine F.ok sc (λvs H Q E h=>by cases h;subst_vars;rfl) (λcdv A outer s H vs Q E hr h=>?_))
set_option hygiene false in
local macro_rules|`(tactic|walk_at "x")=>`(tactic|refine F.okX sc (λvs H Q E h=>?_) (λcdv A outer s H vs Q E hr h=>?_))
set_option hygiene false in
local macro_rules|`(tactic|walk_at "c")=>`(tactic|exact⟨rfl,rfl,rfl,by decide +kernel,rfl,by decide +kernel,by decide +kernel⟩)
def h_(i:Nat):Stmt:=PySem.Challenge.pw_quiltlaw_k34_rows_of_trees.main.body.getD i (.Pass ⟨0,0,0,0⟩)
def Go:Stmt->List Stmt
 | .ClassDef (body:=b) ..=>b
 |_=>[]
def fG(i j:Nat):Stmt:=(Go (h_ i)).getD j (.Pass ⟨0,0,0,0⟩)
section
variable {P:NC}{w:NF}{K:W.Frag}{mg:Nz}{base:Heap}
abbrev IG(z:Str)(c:Nat):Bool:=!(Builtin.Str.occurrences z ⟨#[c]⟩ 0 z.length 1).isEmpty
abbrev oR:Stmt:=h_ 25
def i8(r:Nu)(z:Str):Bool:=r.all (IG z)
inductive jf(vs:List V)(H:Hp)(Q:VK)(_E:XK):Prop
 |mk (r:Nu) (z:Str) (_:vs=[.str (tx r),.str z]) (_:r.length<=100000) (_:∀H',aE H H'->Q (.bl (i8 r z)) H')
theorem yM:az ["text","letters"] ["text","letters"] (am oR):=by walk_at "c"
theorem LS{i c:Nat}(h:(tx r).cps[i]?=some c):r[i]?=some c:=by
 rw[<- h];show r[i]?=r.toArray[i]?;simp
theorem Jr(r:Nu):(tx r).cps.size=r.length:=by show r.toArray.size=_;simp
theorem Ab{f:Addr}(F:cE K "only_of" "only_of" oR f fd)(nb:NB mg):↑aY 1 f fd ["text","letters"] jf:=by
 have sc:=yM;walk_at "f"
 ·obtain⟨r,z,rfl,hr',q⟩:=h
  refine⟨_,(aj (aG (ax (xH rfl) rfl nb.all Dv (aa (b7 ["sign"] [1] rfl (bB.of (by kernel_rfl)) (by kernel_rfl) (HA (al 0))
    (λ_ _ _ _=>(aD (i:=0) (by show(["sign","letters"]:List Str).Nodup;decide +kernel) rfl (Or.inl rfl))) (λ_ _ _ _=>bK) (λ_ _ _ _=>(gw Cb (al 0) (al 1) (by with_unfolding_all rfl)))) ac)))),?_⟩
  ext;refine ER (x:=tx r) (λi a σ g=>g=H/\a=((r.take i).map (IG z)).map V.bl/\i<=r.length/\∃x,σ=[x,some (.str z)]) ⟨rfl,rfl,MV _,_,rfl⟩ ?_ ?_ ?_ ?_
  ·rintro i a σ g ⟨_,rfl,m,_⟩
   rw[My,My,Na];exact bf ⋯
  ·rintro i a σ g ⟨_,_,h,_⟩
   rw[Jr];exact h
  ·rintro i c a σ g n ⟨rfl,rfl,m,y,rfl⟩
   have b:=LS n;have j:=(Mw.mp b).1;ext;refine⟨?_,j⟩;rw[q0D,b];simp
  ·rintro a σ g ⟨rfl,rfl,_⟩ l k
   refine⟨_,aT.of ad,?_⟩;rw[Jr,M'];have e:(r.map (IG z)).all id=i8 r z:=by unfold i8;rw[List.all_map];rfl
   rw[e];exact q _ (ae k)
abbrev pB:Stmt:=h_ 26
abbrev Hw:Str:="ABCDEFGHIJKLMNOPQRSTUVWXYZ"
def dF(r:Nu):Bool:=decide (1<=r.length)&&decide (r.length<=4)&&i8 r Hw
inductive mO(vs:List V)(H:Hp)(Q:VK)(_E:XK):Prop
 |mk (r:Nu) (_:vs=[.str (tx r)]) (_:r.length<=100000) (_:∀H',aE H H'->Q (.bl (dF r)) H')
theorem z_:az ["text"] ["text"] (am pB):=by walk_at "c"
theorem zN{f:Addr}{t1 t2:Tok}(F:cE K "is_name" "is_name" pB f fd)(nb:NB mg)(ybl:mg "LONGEST_NAME"=some (.int 4 t1))(ybt:mg "CAPITALS"=some (.str "ABCDEFGHIJKLMNOPQRSTUVWXYZ" t2))(yar:↑cW 1 "only_of" ["text","letters"] jf):↑aY 2 f fd ["text"] mO:=by
 have sc:=z_;walk_at "f"
 ·obtain⟨r,rfl,a,q⟩:=h
  refine⟨_,(aj (aG (kS (xE (br.m0 mj) (br.m0 mj) ai (ax a_ rfl nb.len aW (aa (al 0) ac)) (dz (v:=.int 4) rfl ybl ⟨_,rfl⟩)) (oW (aF yar (hr.mono nofun) rfl aR (aa (al 0) (aa (dz (v:=.str "ABCDEFGHIJKLMNOPQRSTUVWXYZ") rfl ybt ⟨_,rfl⟩) ac))))))),?_⟩;ext;refine⟨by rw[ay];exact ao ⋯,?_⟩;rw[ay];unfold dF at q
  by_cases h1:1<=r.length
  ·rw[q07 ⋯]
   by_cases h2:r.length<=4
   ·rw[q07 ⋯]
    refine⟨r,_,rfl,a,λc b=>?_⟩;have z:=q c b;rw[q09 h1,q09 h2]at z;exact z
   ·rw[q06 ⋯]
    have z:=q H (λ_ _ e=>e);rw[q09 h1,q08 h2]at z;exact z
  ·rw[q06 ⋯]
   have z:=q H (λ_ _ e=>e);rw[q08 h1]at z;exact z
abbrev eM:Stmt:=fG 27 0
inductive dR(K:W.Frag)(CF:Addr)(vs:List V)(H:Hp)(Q:VK)(E:XK):Prop
 |mk (a C dx l:Addr) (n:Nu) (c:Int) (ps:bH) (_:vs=[.ref a,.str (tx n),.int c,.ref l]) (_:H a=some (.ins C dx [])) (_:m8 K C) (_:av K C "name") (_:av K C "cost") (_:av K C "part_names") (_:H l=some (.lst (aJ ps))) (_:ps.length<=1000) (_:(∀r∈n::ps,r.length<=100000)) (_:((∀r∈n::ps,dF r=true)/\1<=c/\c<=9->∀H',aE H H'->Q .non (aC H' a (.ins C dx [("name",.str (tx n)),("cost",.int c),("part_names",.ref l)])))) (_:(¬ ((∀r∈n::ps,dF r=true)/\1<=c/\c<=9)->∀H',aE H H'->E (.ref CF) none H'))
theorem vM:az ["self","name","cost","part_names","text"] ["self","name","cost","part_names"] (am eM):=by walk_at "c"
theorem vN{f zfa:Addr}(F:cE K "__init__" "Rule.__init__" eM f fd)(nb:NB mg)(zDa:mg "NoRule"=some (.ref zfa))(zya:XR K zfa)(yaG:↑cW 2 "is_name" ["text"] mO):aY P w K mg base (bI P w) 3 f fd ["self","name","cost","part_names"] (dR K zfa):=by
 have sc:=vM;walk_at "x"
 ·obtain⟨a,C,I,l,n,c,ps,rfl,_⟩:=h;rfl
 ·obtain⟨a,C,I,l,n,c,ps,rfl,ha,O,n1,Z,Y,hl,hpl,o,good,bad⟩:=h
  refine⟨_,(af (bL PassesOwn.leaving rfl (cG (aA oM (bz (aa (al 1) ac)) (al 3))) (q02 4 sc.nd)
   (aj (bp (fq (gi (aF (CX:=bI P w) yaG.lift (hr.mono nofun) rfl bj (aa (al 4) ac)) λ_=>rfl))
   (aj (dS zya rfl rfl zDa (fE λ_ _ _ h=>h) (bJ ac)))
   aN)))
   (af (bp (PW.pt (fm (aH (br.m0 pC) (al 2) ai (aL _)) (fB (aH (br.m0 jP) (al 2) ai (aL _)))))
   (aj (dS zya rfl rfl zDa (fE λ_ _ _ h=>h) (bJ ac)))
   aN)
   (af (dC (al 0) (al 1) rfl)
   (af (dC (al 0) (al 2) rfl)
   (aj (dC (al 0) (al 3) rfl)))))),?_⟩
  ext;refine⟨ao ⋯,λp hp=>?_⟩;have m1:aE H (aC H p (.lst [V.str (tx n)])):=ae hp;have S:aC H p (.lst [V.str (tx n)]) p=some (.lst [V.str (tx n)]):=ad;generalize aC H p (.lst [V.str (tx n)])=H1 at m1 S ⊢;refine⟨_,S,_,m1 _ _ hl,by rw[aw];exact ao (by simp;omega),λy L=>?_⟩;have M:[V.str (tx n)]++aJ ps=aJ (n::ps):=rfl;rw[M];have R:aE H1 (aC H1 y (.lst (aJ (n::ps)))):=ae L;have G:aC H1 y (.lst (aJ (n::ps))) y=some (.lst (aJ (n::ps))):=ad;generalize aC H1 y (.lst (aJ (n::ps)))=H2 at R G ⊢;generalize hqs:n::ps=qs at o good bad G ⊢;have m:=m1.trans R;refine⟨⟨_,aT.of G⟩,dh (xs:=aJ qs) (λi σ q=>aE H2 q/\(∀r∈qs.take i,dF r=true)/\∃x,σ=[some (.ref a),some (.str (tx n)),some (.int c),some (.ref l),x]) ⟨λ_ _ e=>e,by simp,_,rfl⟩ (λi σ q _ h=>aT.of (h.1 _ _ G)) ?_ ?_⟩
  ·rintro i v σ q J ⟨u,j,x,rfl⟩
   have B:i<qs.length:=by have:=(Mw.mp J).1;rwa [aw]at this
   rw[bi B]at J;cases J;ext;refine⟨_,rfl,o _ (MF B),λH3 k=>⟨_,rfl,?_⟩⟩
   by_cases D:dF qs[i]=true
   ·rw[q06 (by rw[D];decide)]
    refine⟨u.trans k,λr hr=>?_⟩;rw[q0D,Mv B]at hr;rcases MK.mp hr with h | h
    ·exact j r h
    ·rw[show r=qs[i] by simpa using h];exact D
   ·rw[q07 (by simpa using D)]
    exact⟨ao ⋯,bad (λh=>D (h.1 _ (MF B))) _ ((m.trans u).trans k)⟩
  ·rintro σ q ⟨u,j,x,rfl⟩
   rw[aw,M']at j;have b:=m.trans u;ext
   by_cases U:c<1
   ·rw[q07 U]
    exact⟨ao ⋯,bad (λh=>by omega) _ b⟩
   ·rw[q06 U]
    by_cases T:9<c
    ·rw[q07 T]
     exact⟨ao ⋯,bad (λh=>by omega) _ b⟩
    ·rw[q06 T]
     have g:=good ⟨j,⋯,⋯⟩ q b;have l1:(cV "name" (V.str (tx n)) []).length<=1:=dJ _ _ _;have l2:(cV "cost" (V.int c) (cV "name" (V.str (tx n)) [])).length<=2:=M5 (dJ _ _ _) ⋯;have d1:¬ (("name":Str)="cost"):=by decide +kernel
     have d2:¬ (("name":Str)="part_names"):=by decide +kernel
     have d3:¬ (("cost":Str)="part_names"):=by decide +kernel
     have e:cV "part_names" (V.ref l) (cV "cost" (V.int c) (cV "name" (V.str (tx n)) []))=[(("name":Str),V.str (tx n)),(("cost":Str),V.int c),(("part_names":Str),V.ref l)]:=by
      simp only[cV,q06 d1,q06 d2,q06 d3]
     refine⟨C,I,[],b _ _ ha,O,n1,by simp,C,I,_,ad,O,Z,⋯,C,I,_,ad,O,Y,⋯,?_⟩;rw[nk,nk,e];exact g
def bW(a:Addr)(H H':Hp):Prop:=∀b o,b≠a->H b=some o->H' b=some o
theorem bW.of(s:aE H H'):bW a H H':=λb o _ e=>s b o e
theorem bW.put(s:bW a H H'):bW a H (aC H' a o):=λb u hb e=>by rw[aq hb];exact s b u hb e
theorem bW.then(s:bW a H H')(t:aE H' H2):bW a H H2:=λb u hb e=>t b u (s b u hb e)
abbrev Hx:Str:="abcdefghijklmnopqrstuvwxyz"
def i9(r:Nu):Bool:=decide (r.length=1)&&i8 r Hx
def iE(n:Nu)(ps:bH)(c:Int):Prop:=(∀r∈n::ps,dF r=true)/\1<=c/\c<=9
abbrev eQ:Stmt:=fG 28 0
inductive jh(K:W.Frag)(CF:Addr)(vs:List V)(H:Hp)(Q:VK)(E:XK):Prop
 |mk (a C dx:Addr) (n sg:Nu) (c:Int) (_:vs=[.ref a,.str (tx n),.int c,.str (tx sg)]) (_:H a=some (.ins C dx [])) (_:m8 K C) (_:(av K C "name"/\av K C "cost"/\av K C "part_names"/\av K C "sign")) (_:n.length<=100000) (_:sg.length<=100000) (_:(iE n [] c/\i9 sg=true->∀(l:Addr) (H':Hp),bW a H H'->H l=none->H' l=some (.lst [])->H' a=some (.ins C dx [("name",.str (tx n)),("cost",.int c),("part_names",.ref l),("sign",.str (tx sg))])->Q .non H')) (_:(¬ (iE n [] c/\i9 sg=true)->∀H',bW a H H'->E (.ref CF) none H'))
theorem v8:az ["self","name","cost","sign"] ["self","name","cost","sign"] (am eQ):=by walk_at "c"
theorem vA{f zfa:Addr}{t3:Tok}(F:cE K "__init__" "CellRule.__init__" eQ f fd)(nb:NB mg)(yaH:mg "SMALLS"=some (.str "abcdefghijklmnopqrstuvwxyz" t3))(zDa:mg "NoRule"=some (.ref zfa))(zya:XR K zfa)
  (yar:↑cW 1 "only_of" ["text","letters"] jf) (zha:BJ P w K mg base (bI P w) 3 "Rule" "__init__" ["self","name","cost","part_names"] (dR K zfa)):aY P w K mg base (bI P w) 4 f fd ["self","name","cost","sign"] (jh K zfa):=by
 have sc:=v8;walk_at "x"
 ·obtain⟨a,C,k,n,j,c,rfl,_⟩:=h;rfl
 ·obtain⟨a,C,k,n,j,c,rfl,G,L,⟨S,R,O,M⟩,T,B,good,bad⟩:=h
  refine⟨_,(af (bF (qw (E:=E) zha (hr.mono nofun) rfl (bo λ_ _ _ h=>h) (aa (al 0) (aa (al 1) (aa (al 2) (aa (bz ac) ac))))))
   (af (bp (PW.pt (fm (aH nu (ax a_ rfl nb.len aW (aa (al 3) ac)) ai (aL _)) (fB (fq (gi (aF (CX:=bI P w) yar.lift (hr.mono nofun) rfl bj (aa (al 3) (aa (dz (v:=.str "abcdefghijklmnopqrstuvwxyz") rfl yaH ⟨_,rfl⟩) ac))) λ_=>rfl)))))
   (aj (dS zya rfl rfl zDa (fE λ_ _ _ h=>h) (bJ ac)))
   aN)
   (aj (dC (al 0) (al 3) rfl)))),?_⟩
  ext;refine⟨MV _,λl u=>?_⟩;have m1:aE H (aC H l (.lst [])):=ae u;have D:aC H l (.lst []) l=some (.lst []):=ad;generalize aC H l (.lst [])=H1 at m1 D ⊢;have o:l≠a:=λe=>by rw[e,G]at u;cases u
  refine⟨a,C,k,l,n,c,[],rfl,m1 _ _ G,L,S,R,O,D,by simp,λr hr=>by rw[show r=n by simpa using hr];exact T,λok p g=>?_,λy p g=>bad (λh=>y h.1) _ (.of (m1.trans g))⟩;have q:bW a H (aC p a (.ins C k [("name",.str (tx n)),("cost",.int c),("part_names",.ref l)])):=(bW.of (m1.trans g)).put;have J:aC p a (.ins C k [("name",.str (tx n)),("cost",.int c),("part_names",.ref l)]) a=some (.ins C k [("name",.str (tx n)),("cost",.int c),("part_names",.ref l)]):=ad;have I:aC p a (.ins C k [("name",.str (tx n)),("cost",.int c),("part_names",.ref l)]) l=some (.lst []):=by rw[aq o];exact g _ _ D
  generalize aC p a (.ins C k [("name",.str (tx n)),("cost",.int c),("part_names",.ref l)])=H3 at q J I ⊢
  try dsimp only
  have m:i9 j=true->j.length=1/\i8 j Hx=true:=λh=>by
   unfold i9 at h;rw[q0L,q0W]at h;exact h
  refine⟨by rw[ay];exact ao ⋯,?_⟩;rw[ay]
  by_cases h1:(j.length:Int)=1
  ·rw[q06 (λh=>h h1)]
   refine⟨j,_,rfl,B,λH4 b=>⟨_,rfl,?_⟩⟩
   by_cases x:i8 j Hx=true
   ·rw[q06 (by rw[x];decide)]
    have Z:¬ (("name":Str)="sign"):=by decide +kernel
    have Y:¬ (("cost":Str)="sign"):=by decide +kernel
    have U:¬ (("part_names":Str)="sign"):=by decide +kernel
    have e:cV "sign" (V.str (tx j)) [(("name":Str),V.str (tx n)),(("cost":Str),V.int c),(("part_names":Str),V.ref l)]=[(("name":Str),V.str (tx n)),(("cost":Str),V.int c),(("part_names":Str),V.ref l),(("sign":Str),V.str (tx j))]:=by
     simp only[cV,q06 Z,q06 Y,q06 U]
    refine⟨C,k,_,b _ _ J,L,M,by simp,?_⟩;rw[e];exact good ⟨ok,by unfold i9;rw[q09 ⋯,x];rfl⟩ l _ (q.then b).put u (by rw[aq o];exact b _ _ I) ad
   ·rw[q07 (by simpa using x)]
    exact⟨ao ⋯,bad (λh=>x (m h.2).2) _ (q.then b)⟩
  ·rw[q07 h1]
   exact⟨ao ⋯,bad (λh=>h1 (by have:=(m h.2).1;omega)) _ q⟩
inductive dM(K:W.Frag)(CF:Addr)(vs:List V)(H:Hp)(Q:VK)(E:XK):Prop
 |mk (a C dx:Addr) (n o1 o2:Nu) (c:Int) (_:vs=[.ref a,.str (tx n),.int c,.str (tx o1),.str (tx o2)]) (_:H a=some (.ins C dx [])) (_:m8 K C) (_:(av K C "name"/\av K C "cost"/\av K C "part_names"/\av K C "one"/\av K C "other")) (_:n.length<=100000) (_:o1.length<=100000) (_:o2.length<=100000) (_:(iE n [o1,o2] c->∀(l:Addr) (H':Hp),bW a H H'->H l=none->H' l=some (.lst (aJ [o1,o2]))->H' a=some (.ins C dx [("name",.str (tx n)),("cost",.int c),("part_names",.ref l),("one",.str (tx o1)),("other",.str (tx o2))])->Q .non H')) (_:(¬ iE n [o1,o2] c->∀H',bW a H H'->E (.ref CF) none H'))
theorem w_{c:Int}:cV "other" (V.str (tx o2)) (cV "one" (V.str (tx o1)) [(("name":Str),V.str (tx n)),(("cost":Str),V.int c),(("part_names":Str),V.ref l)])=[(("name":Str),V.str (tx n)),(("cost":Str),V.int c),(("part_names":Str),V.ref l),(("one":Str),V.str (tx o1)),(("other":Str),V.str (tx o2))]:=by
 have m:¬ (("name":Str)="one"):=by decide +kernel
 have k:¬ (("cost":Str)="one"):=by decide +kernel
 have j:¬ (("part_names":Str)="one"):=by decide +kernel
 have g:¬ (("name":Str)="other"):=by decide +kernel
 have e:¬ (("cost":Str)="other"):=by decide +kernel
 have b:¬ (("part_names":Str)="other"):=by decide +kernel
 have a:¬ (("one":Str)="other"):=by decide +kernel
 simp only[cV,q06 m,q06 k,q06 j,q06 g,q06 e,q06 b,q06 a]
abbrev dc:Stmt:=fG 29 0
theorem qD:az ["self","name","cost","one","other"] ["self","name","cost","one","other"] (am dc):=by walk_at "c"
theorem rY{f zfa:Addr}(F:cE K "__init__" "BesideRule.__init__" dc f fd)(nb:NB mg)
  (zha:BJ P w K mg base (bI P w) 3 "Rule" "__init__" ["self","name","cost","part_names"] (dR K zfa)):aY P w K mg base (bI P w) 4 f fd ["self","name","cost","one","other"] (dM K zfa):=by
 have sc:=qD;walk_at "x"
 ·obtain⟨a,C,g,n,k,j,c,rfl,_⟩:=h;rfl
 ·obtain⟨a,C,g,n,k,j,c,rfl,D,y,⟨R,O,M,L,J⟩,S,v,u,good,bad⟩:=h
  refine⟨_,(af (bF (qw (E:=E) zha (hr.mono nofun) rfl (bo λ_ _ _ h=>h) (aa (al 0) (aa (al 1) (aa (al 2) (aa (bz (aa (al 3) (aa (al 4) ac))) ac))))))
   (af (dC (al 0) (al 3) rfl)
   (aj (dC (al 0) (al 4) rfl)))),?_⟩
  ext;refine⟨ao ⋯,λl p=>?_⟩;have m1:aE H (aC H l (.lst [V.str (tx k),V.str (tx j)])):=ae p;have x:aC H l (.lst [V.str (tx k),V.str (tx j)]) l=some (.lst (aJ [k,j])):=ad;generalize aC H l (.lst [V.str (tx k),V.str (tx j)])=H1 at m1 x ⊢;have m:l≠a:=λe=>by rw[e,D]at p;cases p
  refine⟨a,C,g,l,n,c,[k,j],rfl,m1 _ _ D,y,R,O,M,x,by simp,λr hr=>?_,λok o b=>?_,λq o b=>bad (λh=>q h) _ (.of (m1.trans b))⟩
  ·have T:r=n\/r=k\/r=j:=by simpa using hr
   rcases T with rfl | rfl | rfl
   ·exact S
   ·exact v
   ·exact u
  ·have B:bW a H (aC o a a⁻¹):=(bW.of (m1.trans b)).put
   have I:aC o a a⁻¹ a=some a⁻¹:=ad;have G:aC o a a⁻¹ l=some (.lst (aJ [k,j])):=by rw[aq m];exact b _ _ x
   generalize aC o a a⁻¹=H3 at B I G ⊢
   try dsimp only
   refine⟨C,g,_,I,y,L,by simp,C,g,_,ad,y,J,?_,?_⟩
   ·exact Nc (dJ _ _ _) (by simp)
   ·rw[nk,w_]
    exact good ok l _ B.put p (by rw[aq m];exact G) ad
abbrev dO:Stmt:=fG 30 0
theorem tM:az ["self","name","cost","one","other"] ["self","name","cost","one","other"] (am dO):=by walk_at "c"
theorem tG{f zfa:Addr}(F:cE K "__init__" "AboveRule.__init__" dO f fd)(nb:NB mg)
  (zha:BJ P w K mg base (bI P w) 3 "Rule" "__init__" ["self","name","cost","part_names"] (dR K zfa)):aY P w K mg base (bI P w) 4 f fd ["self","name","cost","one","other"] (dM K zfa):=by
 have sc:=tM;walk_at "x"
 ·obtain⟨a,C,g,n,k,j,c,rfl,_⟩:=h;rfl
 ·obtain⟨a,C,g,n,k,j,c,rfl,D,y,⟨R,O,M,L,J⟩,S,v,u,good,bad⟩:=h
  refine⟨_,(af (bF (qw (E:=E) zha (hr.mono nofun) rfl (bo λ_ _ _ h=>h) (aa (al 0) (aa (al 1) (aa (al 2) (aa (bz (aa (al 3) (aa (al 4) ac))) ac))))))
   (af (dC (al 0) (al 3) rfl)
   (aj (dC (al 0) (al 4) rfl)))),?_⟩
  ext;refine⟨ao ⋯,λl p=>?_⟩;have m1:aE H (aC H l (.lst [V.str (tx k),V.str (tx j)])):=ae p;have x:aC H l (.lst [V.str (tx k),V.str (tx j)]) l=some (.lst (aJ [k,j])):=ad;generalize aC H l (.lst [V.str (tx k),V.str (tx j)])=H1 at m1 x ⊢;have m:l≠a:=λe=>by rw[e,D]at p;cases p
  refine⟨a,C,g,l,n,c,[k,j],rfl,m1 _ _ D,y,R,O,M,x,by simp,λr hr=>?_,λok o b=>?_,λq o b=>bad (λh=>q h) _ (.of (m1.trans b))⟩
  ·have T:r=n\/r=k\/r=j:=by simpa using hr
   rcases T with rfl | rfl | rfl
   ·exact S
   ·exact v
   ·exact u
  ·have B:bW a H (aC o a a⁻¹):=(bW.of (m1.trans b)).put
   have I:aC o a a⁻¹ a=some a⁻¹:=ad;have G:aC o a a⁻¹ l=some (.lst (aJ [k,j])):=by rw[aq m];exact b _ _ x
   generalize aC o a a⁻¹=H3 at B I G ⊢
   try dsimp only
   refine⟨C,g,_,I,y,L,by simp,C,g,_,ad,y,J,?_,?_⟩
   ·exact Nc (dJ _ _ _) (by simp)
   ·rw[nk,w_]
    exact good ok l _ B.put p (by rw[aq m];exact G) ad
inductive jE(K:W.Frag)(CF:Addr)(vs:List V)(H:Hp)(Q:VK)(E:XK):Prop
 |mk (a C dx:Addr) (n o1:Nu) (c t:Int) (_:vs=[.ref a,.str (tx n),.int c,.str (tx o1),.int t]) (_:H a=some (.ins C dx [])) (_:m8 K C) (_:(av K C "name"/\av K C "cost"/\av K C "part_names"/\av K C "part"/\av K C "turning")) (_:n.length<=100000) (_:o1.length<=100000) (_:(iE n [o1] c/\0<=t/\t<=7->∀(l:Addr) (H':Hp),bW a H H'->H l=none->H' l=some (.lst (aJ [o1]))->H' a=some (.ins C dx [("name",.str (tx n)),("cost",.int c),("part_names",.ref l),("part",.str (tx o1)),("turning",.int t)])->Q .non H')) (_:(¬ (iE n [o1] c/\0<=t/\t<=7)->∀H',bW a H H'->E (.ref CF) none H'))
theorem DX{c t:Int}:cV "turning" (V.int t) (cV "part" (V.str (tx o1)) [(("name":Str),V.str (tx n)),(("cost":Str),V.int c),(("part_names":Str),V.ref l)])=[(("name":Str),V.str (tx n)),(("cost":Str),V.int c),(("part_names":Str),V.ref l),(("part":Str),V.str (tx o1)),(("turning":Str),V.int t)]:=by
 have m:¬ (("name":Str)="part"):=by decide +kernel
 have k:¬ (("cost":Str)="part"):=by decide +kernel
 have j:¬ (("part_names":Str)="part"):=by decide +kernel
 have g:¬ (("name":Str)="turning"):=by decide +kernel
 have e:¬ (("cost":Str)="turning"):=by decide +kernel
 have b:¬ (("part_names":Str)="turning"):=by decide +kernel
 have a:¬ (("part":Str)="turning"):=by decide +kernel
 simp only[cV,q06 m,q06 k,q06 j,q06 g,q06 e,q06 b,q06 a]
abbrev eS:Stmt:=fG 31 0
theorem vq:az ["self","name","cost","part","turning"] ["self","name","cost","part","turning"] (am eS):=by walk_at "c"
theorem u3{f zfa:Addr}(F:cE K "__init__" "TurnRule.__init__" eS f fd)(nb:NB mg)(zDa:mg "NoRule"=some (.ref zfa))(zya:XR K zfa)
  (zha:BJ P w K mg base (bI P w) 3 "Rule" "__init__" ["self","name","cost","part_names"] (dR K zfa)):aY P w K mg base (bI P w) 4 f fd ["self","name","cost","part","turning"] (jE K zfa):=by
 have sc:=vq;walk_at "x"
 ·obtain⟨a,C,g,n,j,c,t,rfl,_⟩:=h;rfl
 ·obtain⟨a,C,g,n,j,c,t,rfl,D,x,⟨R,O,M,L,J⟩,S,u,good,bad⟩:=h
  refine⟨_,(af (bF (qw (E:=E) zha (hr.mono nofun) rfl (bo λ_ _ _ h=>h) (aa (al 0) (aa (al 1) (aa (al 2) (aa (bz (aa (al 3) ac)) ac))))))
   (af (bp (PW.pt (fm (aH (br.m0 pC) (al 4) ai (aL _)) (fB (aH (br.m0 jP) (al 4) ai (aL _)))))
   (aj (dS zya rfl rfl zDa (fE λ_ _ _ h=>h) (bJ ac)))
   aN)
   (af (dC (al 0) (al 3) rfl)
   (aj (dC (al 0) (al 4) rfl))))),?_⟩
  ext;refine⟨ao ⋯,λl p=>?_⟩;have m1:aE H (aC H l (.lst [V.str (tx j)])):=ae p;have v:aC H l (.lst [V.str (tx j)]) l=some (.lst (aJ [j])):=ad;generalize aC H l (.lst [V.str (tx j)])=H1 at m1 v ⊢;have k:l≠a:=λe=>by rw[e,D]at p;cases p
  refine⟨a,C,g,l,n,c,[j],rfl,m1 _ _ D,x,R,O,M,v,by simp,λr hr=>?_,λok m b=>?_,λq m b=>bad (λh=>q h.1) _ (.of (m1.trans b))⟩
  ·have T:r=n\/r=j:=by simpa using hr
   rcases T with rfl | rfl
   ·exact S
   ·exact u
  ·have o:bW a H (aC m a a⁻¹):=(bW.of (m1.trans b)).put
   have I:aC m a a⁻¹ a=some a⁻¹:=ad;have G:aC m a a⁻¹ l=some (.lst (aJ [j])):=by rw[aq k];exact b _ _ v
   generalize aC m a a⁻¹=H3 at o I G ⊢
   try dsimp only
   by_cases B:t<0
   ·rw[q07 B]
    exact⟨ao ⋯,bad (λh=>by omega) _ o⟩
   ·rw[q06 B]
    by_cases y:7<t
    ·rw[q07 y]
     exact⟨ao ⋯,bad (λh=>by omega) _ o⟩
    ·rw[q06 y]
     refine⟨C,g,_,I,x,L,by simp,C,g,_,ad,x,J,?_,?_⟩
     ·exact Nc (dJ _ _ _) (by simp)
     ·rw[nk,DX]
      exact good ⟨ok,⋯,⋯⟩ l _ o.put p (by rw[aq k];exact G) ad
abbrev dU:Stmt:=fG 27 1
inductive cM(K:W.Frag)(vs:List V)(H:Hp)(Q:VK)(_E:XK):Prop
 |mk (a C dx l:Addr) (fs:List (Str×V)) (ps:bH) (_:vs=[.ref a]) (_:H a=some (.ins C dx fs)) (_:m8 K C) (_:av K C "part_names") (_:fs.lookup ("part_names":Str)=some (V.ref l)) (_:H l=some (.lst (aJ ps))) (_:cS H ps Q)
theorem tF:az ["self"] ["self"] (am dU):=by walk_at "c"
theorem fQ{f:Addr}(F:cE K "parts" "Rule.parts" dU f fd)(nb:NB mg):↑aY 1 f fd ["self"] (cM K):=by
 have sc:=tF;walk_at "f"
 ·obtain⟨a,C,m,l,fs,ps,rfl,k,n,c,e,j,q⟩:=h
  refine⟨_,(aj (aG (eZ cX rfl nb.list gE (aa (bN (al 0) rfl) ac)))),?_⟩;ext;refine⟨C,m,fs,k,n,c,V.ref l,e,l,rfl,_,.inl (aT.of j),λg b=>q g _ b ad (ae b)⟩
abbrev G4(n:Nu)(c:Int)(l:Addr)(sg:Nu):List (Str×V):=[("name",.str (tx n)),("cost",.int c),("part_names",.ref l),("sign",.str (tx sg))]
abbrev EM(n:Nu)(c:Int)(l:Addr)(o1 o2:Nu):List (Str×V):=[("name",.str (tx n)),("cost",.int c),("part_names",.ref l),("one",.str (tx o1)),("other",.str (tx o2))]
abbrev GJ(n:Nu)(c:Int)(l:Addr)(o1:Nu)(t:Int):List (Str×V):=[("name",.str (tx n)),("cost",.int c),("part_names",.ref l),("part",.str (tx o1)),("turning",.int t)]
theorem iU(h:dF r=true):1<=r.length/\r.length<=4:=by
 unfold dF at h;rw[q0L,q0L,q0W,q0W]at h;exact h.1
theorem oU(h:i9 r=true):r.length=1:=by
 unfold i9 at h;rw[q0L,q0W]at h;exact h.1
theorem ak{a b:TS}{D:iT}{σ:St}(h:∀N:St->Hp->Prop,(∀σ2 H2,b D σ2 H2->N σ2 H2)->a {D with nx:=N} σ H):Ch a b D σ H:=h (b D) λ_ _ z=>z
abbrev pi:Stmt:=h_ 59
inductive mD(vs:List V)(H:Hp)(Q:VK)(_E:XK):Prop
 |mk (i:Int) (_:vs=[.int i]) (_:Q (.bl true) H)
theorem yC:az ["_law_x"] ["_law_x"] (am pi):=by walk_at "c"
theorem yL{f:Addr}(F:cE K "_law_whole" "_law_whole" pi f fd)(nb:NB mg):↑aY 1 f fd ["_law_x"] mD:=by
 have sc:=yC;walk_at "f"
 ·obtain⟨i,rfl,q⟩:=h
  refine⟨_,(aj (aG (kS (ax b_ rfl nb.isinstance cu (aa (al 0) (aa (n_ (v:=.ty "int") rfl nb.int Hc rfl) ac))) (oW (DA (ax b_ rfl nb.isinstance cu (aa (al 0) (aa (n_ (v:=.ty "bool") rfl nb.bool FP rfl) ac)))))))),?_⟩;ext;refine⟨_,je.int i,_,nw K _,?_⟩;ext;refine⟨_,je.int i,_,u9 K,?_⟩;exact q
structure RV where
 n:List Nat
 c:Int
 o1:List Nat
 o2:List Nat
 sg:List Nat
 t:Int
abbrev Yaa:=List (Nat×RV)
structure RC where
 rr:Addr
 cc:Addr
 cb:Addr
 ca:Addr
 ct:Addr
def RC.at(R:RC)(k:Nat):Addr:=match k with | 0=>R.cc | 1=>R.cb | 2=>R.ca | _=>R.ct
def xU(k:Nat)(l:Addr)(v:RV):List (Str×V):=match k with | 0=>G4 v.n v.c l v.sg | 1=>EM v.n v.c l v.o1 v.o2 | 2=>EM v.n v.c l v.o1 v.o2 | _=>GJ v.n v.c l v.o1 v.t
def bh(k:Nat)(v:RV):bH:=match k with | 0=>[] | 1=>[v.o1,v.o2] | 2=>[v.o1,v.o2] | _=>[v.o1]
def J8(k:Nat)(v:RV):Prop:=match k with | 0=>iE v.n [] v.c/\i9 v.sg=true | 1=>iE v.n [v.o1,v.o2] v.c | 2=>iE v.n [v.o1,v.o2] v.c | _=>iE v.n [v.o1] v.c/\0<=v.t/\v.t<=7
structure RV.small(v:RV):Prop where
 n:v.n.length<=1000
 o1:v.o1.length<=1000
 o2:v.o2.length<=1000
 sg:v.sg.length<=1000
structure RV.good(v:RV):Prop where
 n:dF v.n=true
 c1:1<=v.c
 c9:v.c<=9
 o1:dF v.o1=true
 o2:dF v.o2=true
 sg:i9 v.sg=true
 t0:0<=v.t
 t7:v.t<=7
theorem RV.good.small{v:RV}(g:v.good):v.small:=⟨by have:=iU g.n;omega,by have:=iU g.o1;omega,by have:=iU g.o2;omega,by have:=oU g.sg;omega⟩
theorem RV.good.ok{v:RV}(g:v.good):∀k,J8 k v
 |0=>⟨⟨λr hr=>by rw[show r=v.n by simpa using hr];exact g.n,g.c1,g.c9⟩,g.sg⟩
 |1=>⟨λr hr=>by rcases(show r=v.n\/r=v.o1\/r=v.o2 by simpa using hr) with rfl | rfl | rfl<;>first | exact g.n | exact g.o1 | exact g.o2,g.c1,g.c9⟩
 |2=>⟨λr hr=>by rcases(show r=v.n\/r=v.o1\/r=v.o2 by simpa using hr) with rfl | rfl | rfl<;>first | exact g.n | exact g.o1 | exact g.o2,g.c1,g.c9⟩
 |_+3=>⟨⟨λr hr=>by rcases(show r=v.n\/r=v.o1 by simpa using hr) with rfl | rfl<;>first | exact g.n | exact g.o1,g.c1,g.c9⟩,g.t0,g.t7⟩
def i_(R:RC)(H:Hp)(k:Nat)(a:Addr)(v:RV):Prop:=∃dx l,H a=some (.ins (R.at k) dx (xU k l v))/\H l=some (.lst (aJ (bh k v)))
theorem i_.up(r:i_ R H k a v)(s:aE H H'):i_ R H' k a v:=by
 obtain⟨b,l,h1,h2⟩:=r;exact⟨b,l,s _ _ h1,s _ _ h2⟩
structure qh(K:W.Frag)(R:RC):Prop where
 i0:fY K R.cc
 i1:fY K R.cb
 i2:fY K R.ca
 i3:fY K R.ct
 a0:av K R.cc "name"/\av K R.cc "cost"/\av K R.cc "part_names"/\av K R.cc "sign"
 a1:av K R.cb "name"/\av K R.cb "cost"/\av K R.cb "part_names"/\av K R.cb "one"/\av K R.cb "other"
 a2:av K R.ca "name"/\av K R.ca "cost"/\av K R.ca "part_names"/\av K R.ca "one"/\av K R.ca "other"
 a3:av K R.ct "name"/\av K R.ct "cost"/\av K R.ct "part_names"/\av K R.ct "part"/\av K R.ct "turning"
 r0:W.kitOne K (.ref R.cc) (.ref R.rr)=some true
 r1:W.kitOne K (.ref R.cb) (.ref R.rr)=some true
 r2:W.kitOne K (.ref R.ca) (.ref R.rr)=some true
 r3:W.kitOne K (.ref R.ct) (.ref R.rr)=some true
 s0:W.kitOne K (.ref R.cc) (.ref R.cc)=some true
 s1:W.kitOne K (.ref R.cb) (.ref R.cb)=some true
 s2:W.kitOne K (.ref R.ca) (.ref R.ca)=some true
 s3:W.kitOne K (.ref R.ct) (.ref R.ct)=some true
theorem qh.icls(rk:qh K R):∀k,fY K (R.at k)
 |0=>rk.i0
 |1=>rk.i1
 |2=>rk.i2
 |_+3=>rk.i3
theorem qh.name(rk:qh K R):∀k,av K (R.at k) "name"/\av K (R.at k) "cost"/\av K (R.at k) "part_names"
 |0=>⟨rk.a0.1,rk.a0.2.1,rk.a0.2.2.1⟩
 |1=>⟨rk.a1.1,rk.a1.2.1,rk.a1.2.2.1⟩
 |2=>⟨rk.a2.1,rk.a2.2.1,rk.a2.2.2.1⟩
 |_+3=>⟨rk.a3.1,rk.a3.2.1,rk.a3.2.2.1⟩
theorem i'(l:Addr)(v:RV):∀k,(xU k l v).lookup ("name":Str)=some (V.str (tx v.n))/\(xU k l v).lookup ("cost":Str)=some (V.int v.c)/\(xU k l v).lookup ("part_names":Str)=some (V.ref l)/\(xU k l v).lookup ("parts":Str)=none/\(xU k l v).lookup ("told":Str)=none
 |0=>⟨rfl,rfl,rfl,rfl,rfl⟩
 |1=>⟨rfl,rfl,rfl,rfl,rfl⟩
 |2=>⟨rfl,rfl,rfl,rfl,rfl⟩
 |_+3=>⟨rfl,rfl,rfl,rfl,rfl⟩
theorem k7{H1 H2:Hp}(hx:H1 x=none)(hd:H1 dx=none)(s:bW x (aC (aC H1 dx o) x o') H2):aE H1 H2:=
 λb u e=>s b u (aK e hx) (by rw[aq (aK e hx),aq (aK e hd)];exact e)
theorem Dr{CX:kc}(h0:∃ps,cn P w K mg base CX k C0 m ps s0)(h1:∃ps,cn P w K mg base CX k C1 m ps s1)(h2:∃ps,cn P w K mg base CX k C2 m ps s2)(h3:∃ps,cn P w K mg base CX k C3 m ps s3) :
  qb P w K mg base CX k m [(C0,s0),(C1,s1),(C2,s2),(C3,s3)]:=⟨λo ho=>by
 simp only[MM,List.not_mem_nil,or_false]at ho;rcases ho with rfl | rfl | rfl | rfl
 ·exact h0
 ·exact h1
 ·exact h2
 ·exact h3⟩
def pk(K:W.Frag)(R:RC):List (Addr×Sp):=[(R.cc,cM K),(R.cb,cM K),(R.ca,cM K),(R.ct,cM K)]
theorem uG{R:RC}{k a}{v:RV}{Q:VK}{E:XK}(rk:qh K R)(r:i_ R H k a v)(q:cS H (bh k v) Q) :
  ∃o∈pk K R,∃dx fs,H a=some (.ins o.1 dx fs)/\fs.lookup ("parts":Str)=none/\o.2 [.ref a] H Q E:=by
 obtain⟨dx,l,h1,h2⟩:=r;have b:cM K [.ref a] H Q E:=⟨a,R.at k,dx,l,_,_,rfl,h1,(rk.icls k).cl,(rk.name k).2.2,(i' l v k).2.2.1,h2,q⟩;have mem:(R.at k,cM K)∈pk K R:=by
  unfold pk
  match k with
  |0=>simp[RC.at]
  |1=>simp[RC.at]
  |2=>simp[RC.at]
  |_+3=>simp[RC.at]
 exact⟨_,mem,dx,_,h1,(i' l v k).2.2.2.1,b⟩
abbrev kN:Stmt:=h_ 54
abbrev sG:Str:="abcdefghijklmnopqrstuvwxyz"
def dI(r:Nu):Bool:=decide (1<=r.length)&&decide (r.length<=4)&&i8 r sG&&decide ((met (dy (tx r))).length=r.length)
inductive nN(vs:List V)(H:Hp)(Q:VK)(_E:XK):Prop
 |mk (r:Nu) (_:vs=[.str (tx r)]) (_:r.length<=1000) (_:∀H',aE H H'->Q (.bl (dI r)) H')
theorem wC:az ["text"] ["text"] (am kN):=by walk_at "c"
theorem ww{f:Addr}{t1 t2:Tok}(F:cE K "are_signs" "are_signs" kN f fd)(nb:NB mg)(ybs:mg "MOST_SIGNS"=some (.int 4 t1))(yaH:mg "SMALLS"=some (.str "abcdefghijklmnopqrstuvwxyz" t2))(yar:↑cW 1 "only_of" ["text","letters"] jf):↑aY 2 f fd ["text"] nN:=by
 have sc:=wC;walk_at "f"
 ·obtain⟨r,rfl,hr',q⟩:=h
  refine⟨_,(aj (aG (kS (xE (br.m0 mj) (br.m0 mj) ai (ax a_ rfl nb.len aW (aa (al 0) ac)) (dz (v:=.int 4) rfl ybs ⟨_,rfl⟩)) (kS (aF yar (hr.mono nofun) rfl aR (aa (al 0) (aa (dz (v:=.str "abcdefghijklmnopqrstuvwxyz") rfl yaH ⟨_,rfl⟩) ac))) (oW (gw c7 (Bw rfl (al 0) rfl nb.len rfl nb.set) (ax a_ rfl nb.len aW (aa (al 0) ac)) (aL _))))))),?_⟩;ext;refine⟨by rw[ay];exact ao ⋯,?_⟩;rw[ay];unfold dI at q
  by_cases h1:1<=r.length
  ·rw[q07 ⋯]
   by_cases h2:r.length<=4
   ·rw[q07 ⋯]
    refine⟨r,_,rfl,⋯,λc b=>⟨_,rfl,?_⟩⟩;have z:=q c b;rw[q09 h1,q09 h2]at z;cases a:i8 r sG with
    |false=>
     rw[a]at z;rw[q06 (by simp)];exact z
    |true=>
     rw[a]at z;rw[q07 rfl];refine⟨by rw[Jr];unfold scanBound;omega,by exact ao ⋯,?_⟩;have e:decide (((met (dy (tx r))).length:Int)=(r.length:Int))=decide ((met (dy (tx r))).length=r.length):=by
      apply decide_eq_decide.mpr
      constructor<;>intro h<;>omega
     rw[e];exact z
   ·rw[q06 ⋯]
    have z:=q H (λ_ _ e=>e);rw[q09 h1,q08 h2]at z;exact z
  ·rw[q06 ⋯]
   have z:=q H (λ_ _ e=>e);rw[q08 h1]at z;exact z
def Ij(y:Str×List Int):List V:=.str y.1::y.2.map V.int
theorem E5{α:Type}{l:List α}{i:Nat}{x:α}(h:l[i]?=some x):l.drop i=x::l.drop (i+1):=by
 obtain⟨a,e⟩:=Mw.mp h;rw[List.drop_eq_getElem_cons a,e]
def zK(C:Addr)(H:Hp)(y:Str×List Int)(E:XK):Prop:=∀(t d:Addr) (H':Hp),aE H H'->H' t=some (.tup (Ij y))->H' d=some (.xd [("why",.ref t)])->E (.ref C) (some d) H'
theorem zK.made(b:zK C H y E)(sm:aE H H'){p d:Addr}(hp:H' p=none)(hd:aC H' p (.tup (Ij y)) d=none):E (.ref C) (some d) (aC (aC H' p (.tup (Ij y))) d (.xd [("why",.ref p)])):=by
 have a:p≠d:=λx=>by rw[<- x,ad]at hd;cases hd
 exact b p d _ ((sm.trans (ae hp)).trans (ae hd)) (by rw[aq a,ad]) ad
structure GQ(K:W.Frag)(R:RC):Prop where
 kit:∀i j,i<4->j<4->W.kitOne K (.ref (R.at i)) (.ref (R.at j))=some (decide (i=j))
abbrev k9:Stmt:=fG 5 0
theorem EQ:az ["self","why"] ["self","why"] (am k9):=by walk_at "c"
theorem DS{f:Addr}(F:cE K "__init__" "NoGrammar.__init__" k9 f fd)(xs:W.XSt K C "why"):↑aY 1 f fd ["self","why"] (nW C "why"):=by
 have sc:=EQ;refine F.ok sc (λvs H Q E h=>by obtain⟨_,_,h,_⟩:=h;rw[h];rfl) (λcdv A outer s H vs Q E hr h=>?_)
 ·obtain⟨a,v,rfl,c,q⟩:=h
  refine⟨_,(aj (AM (pv 0) (pv 1) rfl)),?_⟩;ext;exact⟨C,c,xs,λd b=>q d b⟩
abbrev Jc(z x:Str):Bool:=!(Builtin.Str.occurrences z x 0 z.length 1).isEmpty
def iw(sg:Str):Yaa->Nat->Option Nat
 | [],_=>none
 |r::rs,j=>if r.1=0/\Jc sg (tx r.2.sg)=false then some j else iw sg rs (j+1)
def jt(sg st:Nu)(rs:Yaa):Option (Str×List Int):=
 if dI sg=false then some ("signs",[]) else if dF st=false then some ("start",[]) else if 24<rs.length then some ("rules",[(rs.length:Int)]) else
  match iw (tx sg) rs 0 with
  |some k=>some ("sign",[(k:Int)])
  |none=>none
abbrev fX:Stmt:=h_ 53
def cR(R:RC)(H:Hp)(as:Ny)(rs:Yaa):Prop:=as.length=rs.length/\∀(i:Nat) a r,as[i]?=some a->rs[i]?=some r->i_ R H r.1 a r.2
theorem cR.up(h:cR R H as rs)(s:aE H H'):cR R H' as rs:=⟨h.1,λi a r e1 e2=>(h.2 i a r e1 e2).up s⟩
inductive i5(R:RC)(C:Addr)(vs:List V)(H:Hp)(Q:VK)(E:XK):Prop
 |mk (sg st:Nu) (a:Addr) (as:Ny) (rs:Yaa) (_:vs=[.str (tx sg),.str (tx st),.ref a]) (_:sg.length<=1000) (_:st.length<=1000) (_:H a=some (.lst (as.map V.ref))) (_:cR R H as rs) (_:(∀r∈rs,r.1<4)) (_:rs.length<=100) (_:(jt sg st rs=none->∀H',aE H H'->Q .non H')) (_:∀y,jt sg st rs=some y->zK C H y E)
theorem oV:az ["signs","start","rules","k","rule"] ["signs","start","rules"] (am fX):=by walk_at "c"
theorem oX{f zda:Addr}{t1:Tok}(F:cE K "check_made_of" "check_made_of" fX f fd)(nb:NB mg)(rk:qh K R)(rk4:GQ K R)(ya8:mg "MOST_RULES"=some (.int 24 t1))(zFb:mg "CellRule"=some (.ref R.cc))
  (zva:mg "NoGrammar"=some (.ref zda)) (zoa:XI P w K mg base 1 zda "why") (ybi:↑cW 2 "are_signs" ["text"] nN) (yaG:↑cW 2 "is_name" ["text"] mO):aY P w K mg base (bI P w) 3 f fd ["signs","start","rules"] (i5 R zda):=by
 have sc:=oV;walk_at "x"
 ·obtain⟨sg,I,a,Y,j,rfl,_⟩:=h;rfl
 ·obtain⟨sg,I,a,Y,j,rfl,a2,hst,ha,L,a4,hn,good,bad⟩:=h
  refine⟨_,(af (bp (fq (gi (aF (CX:=bI P w) ybi.lift (hr.mono nofun) rfl bj (aa (al 0) ac)) λ_=>rfl))
   (aj (eW zoa (hr.mono nofun) rfl rfl zva (eN λ_ _ _ h=>h) (aa (aQ (bJ ac)) ac)))
   aN)
   (af (bp (fq (gi (aF (CX:=bI P w) yaG.lift (hr.mono nofun) rfl bj (aa (al 1) ac)) λ_=>rfl))
   (aj (eW zoa (hr.mono nofun) rfl rfl zva (eN λ_ _ _ h=>h) (aa (aQ (bJ ac)) ac)))
   aN)
   (af (bp (aH (br.m0 jP) (ax aX rfl nb.len aW (aa (al 2) ac)) (dz (v:=.int 24) rfl ya8 ⟨_,rfl⟩) (aL _))
   (aj (eW zoa (hr.mono nofun) rfl rfl zva (eN λ_ _ _ h=>h) (aa (aQ (bJ (aa (ax aX rfl nb.len aW (aa (al 2) ac)) ac))) ac)))
   aN)
   (aj (bL PassesOwn.leaving rfl (nL rfl nb.enumerate (aa (al 2) ac)) (gb (n:=2) rfl (aU (q02 3 sc.nd) (aU (q02 4 sc.nd) cY)))
   (aj (bp (PW.pt (m7 (gi (ax b_ rfl nb.isinstance cu (aa (al 4) (aa (dz (v:=.ref _) rfl zFb rfl) ac))) λ_=>rfl) (og (aH vp (bN (al 4) rfl) (al 0) (by with_unfolding_all rfl)))))
   (aj (eW zoa (hr.mono nofun) rfl rfl zva (eN λ_ _ _ h=>h) (aa (aQ (bJ (aa (al 3) ac))) ac)))
   aN))))))),?_⟩
  have b:∀(m:Hp) (y:Str×List Int),aE H m->jt sg I j=some y->∀p,m p=none->1<=sizeLine/\∀d,aC m p (.tup (Ij y)) d=none->E (.ref zda) (some d) (aC (aC m p (.tup (Ij y))) d (.xd [("why",.ref p)])):=
   λm y B hy p hp=>⟨ao ⋯,λd hd=>(bad y hy).made B hp hd⟩
  symm;refine⟨sg,rfl,a2,λH1 J=>⟨_,rfl,?_⟩⟩;unfold jt at good b;cases e1:dI sg with
  |false=>
   rw[q07 rfl];rw[q07 e1]at b;exact⟨ao ⋯,b H1 _ J rfl⟩
  |true=>
  rw[q06 nofun];rw[q06 (by rw[e1];decide)]at good b;refine h1 _ _ ?_;clear h1;ac_nf;refine⟨I,rfl,⋯,λH2 a1=>⟨_,rfl,?_⟩⟩;have c:=J.trans a1;cases e2:dF I with
  |false=>
   rw[q07 rfl];rw[q07 e2]at b;exact⟨ao ⋯,b H2 _ c rfl⟩
  |true=>
  rw[q06 nofun];rw[q06 (by rw[e2];decide)]at good b;refine h2 _ _ ?_;clear h2;have D:=c _ _ ha;have q:(Y.map V.ref).length=j.length:=by rw[My];exact L.1
  refine ak λN3 h3=>?_;ext;refine⟨_,aT.of D,?_⟩;rw[q]
  by_cases U:24<j.length
  ·rw[q07 ⋯]
   rw[q07 U]at b;refine⟨_,aT.of D,ao ⋯,?_⟩;rw[q];exact b H2 _ c rfl
  rw[q06 ⋯];rw[q06 U]at good b;refine h3 _ _ ?_;clear h3;ext;refine⟨_,aT.of D,?_⟩;refine lw (xs:=Y.map V.ref) (λi σ m=>aE H m/\iw (tx sg) (j.drop i) i=iw (tx sg) j 0/\∃x y,σ=[some (.str (tx sg)),some (.str (tx I)),some (.ref a),x,y]) ⟨c,rfl,_,_,rfl⟩ ?_ ?_ ?_
  ·rintro i σ m _ ⟨B,_⟩
   exact aT.of (B _ _ ha)
  ·rintro i x σ H3 T G ⟨B,S,x1,y1,rfl⟩ hT
   have O:i<j.length:=by have:=(Mw.mp G).1;rw[q]at this;exact this
   obtain⟨l,a3,rfl⟩:∃l,Y[i]?=some l/\V.ref l=x:=by
    rw[MA]at G;cases e:Y[i]? with
    |none=>rw[e]at G;cases G
    |some l=>rw[e]at G;exact⟨l,rfl,q0P G⟩
   have C:j[i]?=some j[i]:=Mv O;have M:=a4 _ (MF O);generalize j[i]=r at C M;rw[E5 C]at S;have k:aE H (aC H3 T (.tup [V.int (i:Int),V.ref l])):=B.trans (ae hT);have eT:aC H3 T (.tup [V.int (i:Int),V.ref l]) T=some (.tup [V.int (i:Int),V.ref l]):=ad;generalize aC H3 T (.tup [V.int (i:Int),V.ref l])=H4 at k eT ⊢;have rr:=(L.2 i l r a3 C).up k;obtain⟨dx,pl,u,_⟩:=id rr;ext;refine⟨_,aV.of eT,rfl,_,_,rfl,_,_,rfl,rfl,?_⟩;refine⟨_,(rk.icls r.1).ty u,_,rk4.kit r.1 0 M nofun,?_⟩;have g:(if r.1=0/\Jc (tx sg) (tx r.2.sg)=false then some i else iw (tx sg) (j.drop (i+1)) (i+1))=iw (tx sg) j 0:=S
   by_cases Z:r.1=0
   ·rw[q07 (by simp[Z])]
    obtain⟨r0,v⟩:=r;have a5:r0=0:=Z;subst a5;refine⟨l,rfl,_,_,_,u,rk.i0.cl,rk.a0.2.2.2,_,rfl,_,rfl,?_⟩;cases o:Jc (tx sg) (tx v.sg) with
    |false=>
     rw[q07 o];rw[q07 ⟨rfl,o⟩]at g;rw[<- g]at b;exact⟨ao ⋯,b H4 _ k rfl⟩
    |true=>
     rw[q06 (by rw[show(!(Builtin.Str.occurrences (tx sg) (tx v.sg) 0 (tx sg).length 1).isEmpty)=true from o];decide)];rw[q06 (λz=>by rw[o]at z;exact q0N z.2 nofun)]at g;exact⟨k,g⟩
   ·rw[q06 (by simp[Z])]
    rw[q06 (λz=>Z z.1)]at g;exact⟨k,g⟩
  ·rintro σ m ⟨B,S,x,y,rfl⟩
   ext;rw[q,List.drop_of_length_le (MU _)]at S;refine good ?_ m B;rw[<- S];rfl
def jN(m:List (Str×List Nat))(z:Str)(i:Nat):List (Str×List Nat):=m.map λq=>if q.1=z then(q.1,q.2++[i]) else q
structure vG(H0:Hp)(p:Addr)(t:NT)(H:Hp):Prop where
 same:aE H0 H
 at_:dG H p t
 fresh:∀x∈t,H0 x.2.1=none
 nodup:((kl t).map (·.1)).Nodup
theorem qQ(t:NT):(kl t).length=t.length:=by unfold kl;rw[My]
theorem sY(m:List (Str×List Nat))(z:Str):(b9 m z).length<=m.length+1:=by
 unfold b9;split
 ·omega
 ·rw[MT];simp
theorem jo(m:List (Str×List Nat))(z:Str)(i:Nat):(jN m z i).map (·.1)=m.map (·.1):=by
 unfold jN;rw[ML]
 apply q0H;intro q _;simp only[Function.comp]
 split<;>rfl
theorem Cc{m:List (Str×List Nat)}{j i:Nat}{q:Str×List Nat}(nd:(m.map (·.1)).Nodup)(hj:m[j]?=some q):m.set j (q.1,q.2++[i])=jN m q.1 i:=by
 unfold jN;apply List.ext_getElem?;intro k;rw[MA,List.getElem?_set];have b:j<m.length:=(Mw.mp hj).1
 by_cases e:j=k
 ·subst e
  rw[q07 rfl,q07 b,hj];simp
 ·rw[q06 e]
  cases c:m[k]? with
  |none=>rfl
  |some y=>
   have a:y.1≠q.1:=by
    intro h;have h1:(m.map (·.1))[j]?=some q.1:=by rw[MA,hj];rfl
    have h2:(m.map (·.1))[k]?=some q.1:=by rw[MA,c];simp[h]
    exact e ((List.getElem?_inj (Mw.mp h1).1 nd).mp (h1.trans h2.symm))
   simp[a]
theorem vG.free{t:NT}(N:vG H0 p t H){l:Addr}(h:H l=none):H0 l=none:=N.same.free h
theorem pQ{te:TE}{σ:St}{H0 H:Hp}{t:NT}{z:Str}{i:Nat}{Q:VK}(hp:H0 p=none)(hv:σ[i]?=some (some (.ref p)))(hte:∀R:VK,R (.str z) H->te σ H R)(N:vG H0 p t H)(hn:t.length<sizeLine)
  (h:∀(H':Hp) (t':NT) (j:Nat) (x:Str×Addr×List Nat),vG H0 p t' H'->t'[j]?=some x->x.1=z->kl t'=b9 (kl t) z->t'.length<=t.length+1->(∀a o,a≠p->H a=some o->H' a=some o)->Q (.ref x.2.1) H'):xV (Bb i) te (FW vR) σ H Q:=by
 refine⟨.ref p,hv,p,rfl,.inl ⟨_,.inl N.at_.dict⟩,hte _ ⟨MV _,λl m=>?_⟩⟩;have k:=N.free m;refine N.at_.setdef m hn λH' t' j x w v u g r n=>h H' t' j x ⟨λb o e=>n b o (λq=>by rw[q,hp]at e;exact nomatch e) (N.same b o e),w,λy c=>?_,?_⟩ v u g ?_ n
 ·rcases r y c with q | q
  ·exact N.fresh y q
  ·rw[q];exact k
 ·rw[g];exact nO N.nodup
 ·have:=sY (kl t) z
  rw[<- g,qQ,qQ]at this;exact this
theorem vG.put{t:NT}{j k:Nat}{x:Str×Addr×List Nat}(N:vG H0 p t H)(hj:t[j]?=some x) :
  vG H0 p (t.set j (x.1,x.2.1,x.2.2++[k])) (aC H x.2.1 (.lst (yo (x.2.2++[k]))))/\kl (t.set j (x.1,x.2.1,x.2.2++[k]))=jN (kl t) x.1 k:=by
 have a:=MB hj;have e:kl (t.set j (x.1,x.2.1,x.2.2++[k]))=jN (kl t) x.1 k:=by
  rw[FS];exact Cc (q:=(x.1,x.2.2)) N.nodup (by unfold kl;rw[MA,hj];rfl)
 refine⟨⟨dP N.same (N.fresh x a),N.at_.put hj,λy b=>?_,?_⟩,e⟩
 ·rcases List.mem_or_eq_of_mem_set b with q | q
  ·exact N.fresh y q
  ·rw[q];exact N.fresh x a
 ·rw[e,jo];exact N.nodup
abbrev fC:Stmt:=h_ 55
theorem mG:az ["start","rules","numbers","k","rule","part"] ["start","rules"] (am fC):=by walk_at "c"
def fS(m:List (Str×List Nat))(i:Nat)(r:Nat×RV):List (Str×List Nat):=((bh r.1 r.2).map tx).foldl b9 (jN (b9 m (tx r.2.n)) (tx r.2.n) i)
def g9:Nat->Yaa->List (Str×List Nat)->List (Str×List Nat)
 |_,[],m=>m
 |i,r::rs,m=>g9 (i+1) rs (fS m i r)
theorem mV{m:List (Str×List Nat)}{z:Str}{n:Nat}(h:∀q∈m,q.2.length<=n):∀q∈b9 m z,q.2.length<=n:=by
 unfold b9;split
 ·exact h
 ·intro q a
  rcases MK.mp a with z1 | z1
  ·exact h q z1
  ·rw[Mz.mp z1];exact MV _
theorem pG:∀{zs:ND} {m:List (Str×List Nat)} {n:Nat},(∀q∈m,q.2.length<=n)->∀q∈zs.foldl b9 m,q.2.length<=n
 | [],_,_,h=>h
 |z::zs,_,_,h=>pG (zs:=zs) (mV h)
theorem wX{m:List (Str×List Nat)}{i n:Nat}{r:Nat×RV}(h:∀q∈m,q.2.length<=n):∀q∈fS m i r,q.2.length<=n+1:=by
 unfold fS;refine pG λq b=>?_;unfold jN at b;obtain⟨c,a,rfl⟩:=Nf.mp b;have:=mV h c a
 split
 ·rw[MT];simp;exact this
 ·omega
theorem rW:∀{rs:Yaa} {i n:Nat} {m:List (Str×List Nat)},(∀q∈m,q.2.length<=n)->∀q∈g9 i rs m,q.2.length<=n+rs.length
 | [],_,_,_,h=>h
 |r::rs,i,n,m,h=>λq hq=>by
  have:=rW (rs:=rs) (i:=i+1) (wX (i:=i) (r:=r) h) q hq;rw[MI];omega
theorem iq:∀{rs:Yaa} {i:Nat} {m:List (Str×List Nat)} {r:Nat×RV},g9 i (rs++[r]) m=fS (g9 i rs m) (i+rs.length) r
 | [],i,m,r=>rfl
 |r0::rs,i,m,r=>by
  show g9 (i+1) (rs++[r]) (fS m i r0)=fS (g9 (i+1) rs (fS m i r0)) (i+(rs.length+1)) r;rw[iq,show i+1+rs.length=i+(rs.length+1) by omega]
theorem y_(k:Nat)(v:RV):(bh k v).length<=2:=by
 match k with
 |0=>simp[bh]
 |1=>simp[bh]
 |2=>simp[bh]
 |_+3=>simp[bh]
def bt(z:Str)(rs:Yaa):List (Str×List Nat):=g9 0 rs [(z,[])]
inductive gN(K:W.Frag)(R:RC)(vs:List V)(H:Hp)(Q:VK)(_E:XK):Prop
 |mk (z:Str) (a:Addr) (as:Ny) (rs:Yaa) (_:vs=[.str z,.ref a]) (_:H a=some (.lst (as.map V.ref))) (_:cR R H as rs) (_:rs.length<=100) (_:∀p H' t,H p=none->dG H' p t->kl t=bt z rs->(∀x∈t,H x.2.1=none)->aE H H'->Q (.ref p) H')
theorem mL{f:Addr}(F:cE K "numbers_by_name" "numbers_by_name" fC f fd)(nb:NB mg)(rk:qh K R)(yay:↑qb 1 "parts" (pk K R)):↑aY 2 f fd ["start","rules"] (gN K R):=by
 have sc:=mG;walk_at "f"
 ·obtain⟨z,a,as,rs,rfl,ha,Y,hn,q⟩:=h
  refine⟨_,(af (q01 2 sc.nd (Gw (Fo (pv 0) (bz ac) FE) rfl rfl (by simp) nofun))
   (af (bL PassesOwn.never rfl (nL rfl nb.enumerate (aa (pv 1) ac)) (gb (n:=2) rfl (aU (q02 3 sc.nd) (aU (q02 4 sc.nd) cY)))
   (af (bF (q03 (r8 (pv 2) (bN (pv 4) rfl) (bz ac) ⟨rfl,rfl,rfl,rfl⟩) (aa (pv 3) ac)))
   (aj (bL PassesOwn.never rfl (cG (xf yay (hr.mono nofun) aR (pv 4))) (q02 5 sc.nd)
   (aj (bF (r8 (pv 2) (pv 5) (bz ac) ⟨rfl,rfl,rfl,rfl⟩)))))))
   (aj (aG (pv 2))))),?_⟩
  ext;intro p hp;refine⟨MV _,λl hl=>?_⟩;have B:l≠p:=λe=>by rw[e,ad]at hl;exact nomatch hl
  have a1:H l=none:=by rw[aq B]at hl;exact hl
  have a8:a≠p:=λe=>by rw[e,hp]at ha;exact nomatch ha
  have b4:a≠l:=λe=>by rw[e,a1]at ha;exact nomatch ha
  refine⟨by rw[aq (Ne.symm B),ad],[(.inr z,.ref l)],rfl,by simp,as.map V.ref,aT.of (by rw[aq a8,aq b4,aq a8];exact ha),?_⟩;refine lw (xs:=as.map V.ref) (λi σ C=>aE H C/\∃t,dG C p t/\(∀x∈t,H x.2.1=none)/\((kl t).map (·.1)).Nodup/\kl t=g9 0 (rs.take i) [(z,[])]/\t.length<=1+3*i/\∃x y u,σ=[some (.str z),some (.ref a),some (.ref p),x,y,u]) ?_ ?_ ?_ ?_
  ·refine⟨λb o e=>?_,[(z,l,[])],⟨by rw[ad];rfl,λx c=>?_,by simp⟩,λx c=>?_,by simp[kl],rfl,by simp,_,_,_,rfl⟩
   ·have h1:b≠p:=λq=>by rw[q,hp]at e;exact nomatch e
    have h2:b≠l:=λq=>by rw[q,a1]at e;exact nomatch e
    rw[aq h1,aq h2,aq h1];exact e
   ·rw[Mz.mp c,aq B,ad];rfl
   ·rw[Mz.mp c];exact a1
  ·rintro i σ C _ ⟨sm,_⟩
   exact aT.of (sm _ _ ha)
  ·rintro i x σ H1 T c ⟨sm,t,N,fr,nd,em,hlen,x1,y1,u1,rfl⟩ hT
   have a4:i<rs.length:=by have:=(Mw.mp c).1;rw[My,Y.1]at this;exact this
   obtain⟨g,b1,rfl⟩:∃g,as[i]?=some g/\V.ref g=x:=by
    rw[MA]at c;cases e:as[i]? with
    |none=>rw[e]at c;cases c
    |some g=>rw[e]at c;exact⟨g,rfl,q0P c⟩
   have Z:rs[i]?=some rs[i]:=Mv a4;generalize rs[i]=r at Z;have rr:=Y.2 i g r b1 Z;have O:aE H (aC H1 T (.tup [V.int (i:Int),V.ref g])):=sm.trans (ae hT);have gT:∀b o,H1 b=some o->aC H1 T (.tup [V.int (i:Int),V.ref g]) b=some o:=ae hT;have eT:aV K (aC H1 T (.tup [V.int (i:Int),V.ref g])) T [V.int (i:Int),V.ref g]:=aV.of ad;have N2:=N.grow gT;generalize aC H1 T (.tup [V.int (i:Int),V.ref g])=H2 at O gT eT N2 ⊢;clear gT N hT sm H1;simp only[EL,AN,l8,FT];refine⟨_,_,rfl,eT,rfl,_,_,rfl,_,_,rfl,rfl,?_⟩;refine ak λN1 h1=>?_;have a3:=rr.up O;have NI:vG H p t H2:=⟨O,N2,fr,nd⟩;have hz:sizeLine>1000:=bf nofun;obtain⟨dx,pl,L,_⟩:=id a3;ext;refine pQ (z:=tx r.2.n) hp rfl (λS hS=>⟨_,rfl,g,_,dx,_,_,rfl,L,(rk.icls r.1).cl,(rk.name r.1).1,(i' pl r.2 r.1).1,hS⟩) NI ⋯ λH3 t3 j x N3 hj c hm a6 hk=>?_;have U:=N3.at_.list x (MB hj);refine⟨.inl ⟨rfl,_,aT.of U⟩,_,rfl,_,U,?_,h1 _ _ ?_⟩
   ·have h2:(x.1,x.2.2)∈b9 (kl t) (tx r.2.n):=by rw[<- hm];exact Nf.mpr ⟨x,MB hj,rfl⟩
    have h3:=mV (rW (rs:=rs.take i) (i:=0) (n:=0) (m:=[(z,[])]) (λq hq=>by rw[Mz.mp hq];exact MV _)) (z:=tx r.2.n) (x.1,x.2.2) (by rw[<- em];exact h2);rw[Na]at h3;unfold yo;rw[My];have h4:x.2.2.length<=100:=by simp at h3;omega
    omega
   clear h1;obtain⟨J,D⟩:=N3.put (k:=i) hj;have a5:(t3.set j (x.1,x.2.1,x.2.2++[i])).length<=t.length+1:=by rw[List.length_set];exact a6
   have D:kl (t3.set j (x.1,x.2.1,x.2.2++[i]))=jN (b9 (kl t) (tx r.2.n)) (tx r.2.n) i:=by rw[D,hm,c]
   have eI:yo (x.2.2++[i])=yo x.2.2++[V.int (i:Int)]:=by unfold yo;rw[MJ];rfl
   rw[eI]at J;generalize t3.set j (x.1,x.2.1,x.2.2++[i])=t4 at J D a5;generalize aC H3 x.2.1 (.lst (yo x.2.2++[V.int (i:Int)]))=H4 at J ⊢;clear hk U hj N3 hm a6 c NI N2 L a3;have b0:=rr.up J.same;have hpk:=y_ r.1 r.2;ext;refine uG rk b0 λlp H5 B a9 a2=>⟨lp,rfl,⟨_,aT.of a9⟩,?_⟩;have b2:lp≠p:=λe=>by rw[e,J.at_.dict]at B;exact nomatch B
   refine dh (xs:=aJ (bh r.1 r.2)) (λn σ C=>n<=(bh r.1 r.2).length/\∃M,vG H p M C/\kl M=(((bh r.1 r.2).take n).map tx).foldl b9 (jN (b9 (kl t) (tx r.2.n)) (tx r.2.n) i)/\M.length<=t.length+1+n/\C lp=some (.lst (aJ (bh r.1 r.2)))/\∃u,σ=[some (.str z),some (.ref a),some (.ref p),some (.int (i:Int)),some (.ref g),u])
    ⟨MV _,t4,⟨J.same.trans a2,J.at_.grow a2,J.fresh,J.nodup⟩,D,a5,a9,_,rfl⟩ ?_ ?_ ?_
   ·rintro n σ C _ ⟨_,M,_,_,_,I,_⟩
    exact aT.of I
   ·rintro n v σ C hv ⟨hn1,M,N',G,a7,I,u,rfl⟩
    have a0:n<(bh r.1 r.2).length:=by have:=(Mw.mp hv).1;rwa [aw]at this
    rw[bi a0]at hv;cases hv;ext;refine pQ (z:=tx (bh r.1 r.2)[n]) hp rfl (λS hS=>⟨_,rfl,hS⟩) N' ⋯ λH6 t6 j x N6 hj c b3 hl6 hk=>?_;refine⟨a0,t6,N6,?_,⋯,hk _ _ b2 I⟩;rw[b3,G,q0D,Mv a0,MJ,List.foldl_append]
    rfl
   ·rintro σ C ⟨_,M,N',G,a7,I,u,rfl⟩
    rw[aw,M']at G;refine⟨N'.same,M,N'.at_,N'.fresh,N'.nodup,?_,?_,_,_,_,rfl⟩
    ·rw[G,q0D,Z,em]
     show _=g9 0 (rs.take i++[r]) _;rw[iq,Na,Nn (q0M a4),Nat.zero_add]
     rfl
    ·rw[aw]at a7;omega
  ·rintro σ C ⟨sm,t,N,fr,_,em,_,x,y,u,rfl⟩
   ext;refine q p C t hp N ?_ fr sm;rw[em,My,Y.1,M'];rfl
def fZ(sg st:Nu)(rs:Yaa):Option (Str×List Int):=
 match jt sg st rs with
 |some y=>some y
 |none=>if 8<(bt (tx st) rs).length then some ("names",[((bt (tx st) rs).length:Int)]) else none
def iG(sg st:Nu)(lk pn:Addr):List (Str×V):=[("signs",.str (tx sg)),("start",.str (tx st)),("kept",.ref lk),("numbers",.ref pn)]
def eJ(R:RC)(H:Hp)(C dx a:Addr)(sg st:Nu)(as:Ny)(rs:Yaa):Prop:=
 ∃lk pn t,H a=some (.ins C dx (iG sg st lk pn))/\H lk=some (.lst (as.map V.ref))/\cR R H as rs/\dG H pn t/\kl t=bt (tx st) rs
def vb(R:RC)(H:Hp)(C dx a:Addr)(sg st:Nu)(as:Ny)(rs:Yaa)(lk pn:Addr)(t:NT):Prop:=
 H a=some (.ins C dx (iG sg st lk pn))/\H lk=some (.lst (as.map V.ref))/\cR R H as rs/\dG H pn t/\kl t=bt (tx st) rs
theorem vb.f{st:Nu}{lk pn:Addr}{t:NT}(g:vb R H C dx a sg st as rs lk pn t):eJ R H C dx a sg st as rs:=⟨lk,pn,t,g⟩
theorem eJ.up{st:Nu}(g:eJ R H C dx a sg st as rs)(s:aE H H'):eJ R H' C dx a sg st as rs:=by
 obtain⟨c,b,t,h1,h2,k,j,e⟩:=g;exact⟨c,b,t,s _ _ h1,s _ _ h2,k.up s,j.grow s,e⟩
def GG(a C:Addr)(H:Hp)(y:Str×List Int)(E:XK):Prop:=∀(t d:Addr) (H':Hp),bW a H H'->H' t=some (.tup (Ij y))->H' d=some (.xd [("why",.ref t)])->E (.ref C) (some d) H'
theorem GF(k:Nat)(l:Addr)(v:RV):xU k l v≠[]:=λe=>by
 have:=(i' l v k).1;rw[e]at this;exact nomatch this
theorem cR.upX(h:cR R H as rs)(ha:H a=some (.ins C dx []))(s:bW a H H'):cR R H' as rs:=by
 refine⟨h.1,λi b r g c=>?_⟩;obtain⟨d,l,h1,h2⟩:=h.2 i b r g c;refine⟨d,l,s _ _ (λe=>?_) h1,s _ _ (λe=>?_) h2⟩
 ·rw[e,ha]at h1
  have:=q0P h1;exact q0N (HO.ins.inj this).2.2.symm (GF _ _ _)
 ·rw[e,ha]at h2;cases h2
abbrev eY:Stmt:=fG 52 0
inductive jl(K:W.Frag)(R:RC)(CF:Addr)(vs:List V)(H:Hp)(Q:VK)(E:XK):Prop
 |mk (a C dx l:Addr) (sg st:Nu) (as:Ny) (rs:Yaa) (_:vs=[.ref a,.str (tx sg),.str (tx st),.ref l]) (_:H a=some (.ins C dx [])) (_:m8 K C) (_:(av K C "signs"/\av K C "start"/\av K C "kept"/\av K C "numbers")) (_:sg.length<=1000) (_:st.length<=1000) (_:H l=some (.lst (as.map V.ref))) (_:cR R H as rs) (_:(∀r∈rs,r.1<4)) (_:rs.length<=100) (_:(fZ sg st rs=none->∀H' lk pn t,bW a H H'->vb R H' C dx a sg st as rs lk pn t->H lk=none->H pn=none->(∀x∈t,H x.2.1=none)->Q .non H')) (_:∀y,fZ sg st rs=some y->GG a CF H y E)
theorem uZ:az ["self","signs","start","rules"] ["self","signs","start","rules"] (am eY):=by walk_at "c"
theorem uV{f zda:Addr}{t1:Tok}(F:cE K "__init__" "Grammar.__init__" eY f fd)(nb:NB mg)(ybd:mg "MOST_NAMES"=some (.int 8 t1))
  (zva:mg "NoGrammar"=some (.ref zda)) (zoa:XI P w K mg base 1 zda "why") (ybn:cW P w K mg base (bI P w) 3 "check_made_of" ["signs","start","rules"] (i5 R zda)) (ya7:↑cW 2 "numbers_by_name" ["start","rules"] (gN K R)) :
  aY P w K mg base (bI P w) 4 f fd ["self","signs","start","rules"] (jl K R zda):=by
 have sc:=uZ;walk_at "x"
 ·obtain⟨a,C,g,l,b,c,G,O,rfl,_⟩:=h;rfl
 ·obtain⟨a,C,g,l,b,c,G,O,rfl,ha,cl,⟨n1,n2,n3,n4⟩,a8,a7,hl,S,a9,hn,good,bad⟩:=h
  refine⟨_,(af (bF (aF (E:=E) ybn (hr.mono nofun) rfl (bo λ_ _ _ h=>h) (aa (al 1) (aa (al 2) (aa (al 3) ac)))))
   (af (dC (al 0) (al 1) rfl)
   (af (dC (al 0) (al 2) rfl)
   (af (dC (al 0) (eZ cX rfl nb.list gE (aa (al 3) ac)) rfl)
   (af (dC (al 0) (aF (CX:=bI P w) ya7.lift (hr.mono nofun) rfl bj (aa (al 2) (aa (al 3) ac))) rfl)
   (aj (bp (aH (br.m0 jP) (ax um rfl nb.len aW (aa (bN (al 0) rfl) ac)) (dz (v:=.int 8) rfl ybd ⟨_,rfl⟩) (aL _))
   (aj (eW zoa (hr.mono nofun) rfl rfl zva (eN λ_ _ _ h=>h) (aa (aQ (bJ (aa (ax um rfl nb.len aW (aa (bN (al 0) rfl) ac)) ac))) ac)))
   aN))))))),?_⟩
  symm;refine⟨b,c,l,G,O,rfl,a8,a7,hl,S,a9,hn,λg0 H1 M=>h1 _ _ ?_,λy hy t d H' sm ht hd=>bad y (by unfold fZ;rw[hy]) t d H' (.of sm) ht hd⟩;clear h1;have a5:=M _ _ ha;have a3:l≠a:=λe=>by rw[e,ha]at hl;cases hl
  ac_nf;refine⟨C,g,_,a5,cl,n1,by simp,h2 _ _ ?_⟩;clear h2;have J:bW a H (aC H1 a (.ins C g [("signs",.str (tx b))])):=(bW.of M).put;have a2:aC H1 a (.ins C g [("signs",.str (tx b))]) a=some (.ins C g [("signs",.str (tx b))]):=ad;show _;change Ch _ _ _ _ (aC H1 a (.ins C g [("signs",.str (tx b))]));generalize aC H1 a (.ins C g [("signs",.str (tx b))])=H2 at J a2 ⊢;clear M a5;refine ak λN3 h3=>?_;ext;have d1:¬ (("signs":Str)="start"):=by decide +kernel
  have e3:cV "start" (V.str (tx c)) [(("signs":Str),V.str (tx b))]=[(("signs":Str),V.str (tx b)),(("start":Str),V.str (tx c))]:=by simp only[cV,q06 d1]
  refine⟨C,g,_,a2,cl,n2,by simp,?_⟩;rw[e3];refine h3 _ _ ?_;clear h3;have r:bW a H (aC H2 a (.ins C g [(("signs":Str),V.str (tx b)),(("start":Str),V.str (tx c))])):=J.put;have a1:aC H2 a (.ins C g [(("signs":Str),V.str (tx b)),(("start":Str),V.str (tx c))]) a=some (.ins C g [(("signs":Str),V.str (tx b)),(("start":Str),V.str (tx c))]):=ad;generalize aC H2 a (.ins C g [(("signs":Str),V.str (tx b)),(("start":Str),V.str (tx c))])=H3 at r a1 ⊢;clear J a2;have a4:=r _ _ a3 hl;refine ak λN4 h4=>?_;ext;refine⟨_,.inl (aT.of a4),λj m=>?_⟩;have U:j≠a:=λe=>by rw[e,a1]at m;cases m
  have hlk0:j≠l:=λe=>by rw[e,a4]at m;cases m
  have sk:aE H3 (aC H3 j (.lst (G.map V.ref))):=ae m;have ek:aC H3 j (.lst (G.map V.ref)) j=some (.lst (G.map V.ref)):=ad;have b4:H j=none:=by
   cases e:H j with
   |none=>rfl
   |some u=>rw[r _ _ U e]at m;cases m
  generalize aC H3 j (.lst (G.map V.ref))=H4 at sk ek ⊢;have d2:¬ (("signs":Str)="kept"):=by decide +kernel
  have d3:¬ (("start":Str)="kept"):=by decide +kernel
  have e4:cV "kept" (V.ref j) [(("signs":Str),V.str (tx b)),(("start":Str),V.str (tx c))]=[(("signs":Str),V.str (tx b)),(("start":Str),V.str (tx c)),(("kept":Str),V.ref j)]:=by simp only[cV,q06 d2,q06 d3]
  refine⟨C,g,_,sk _ _ a1,cl,n3,by simp,?_⟩;rw[e4];refine h4 _ _ ?_;clear h4;have n:bW a H (aC H4 a (.ins C g [(("signs":Str),V.str (tx b)),(("start":Str),V.str (tx c)),(("kept":Str),V.ref j)])):=(r.then sk).put;have D:aC H4 a (.ins C g [(("signs":Str),V.str (tx b)),(("start":Str),V.str (tx c)),(("kept":Str),V.ref j)]) a=some (.ins C g [(("signs":Str),V.str (tx b)),(("start":Str),V.str (tx c)),(("kept":Str),V.ref j)]):=ad;have Y:aC H4 a (.ins C g [(("signs":Str),V.str (tx b)),(("start":Str),V.str (tx c)),(("kept":Str),V.ref j)]) j=some (.lst (G.map V.ref)):=by rw[aq U];exact ek
  generalize aC H4 a (.ins C g [(("signs":Str),V.str (tx b)),(("start":Str),V.str (tx c)),(("kept":Str),V.ref j)])=H5 at n D Y ⊢;refine ak λN5 h5=>?_;ext;refine⟨tx c,l,G,O,rfl,n _ _ a3 hl,S.upX ha n,hn,λk H6 t o hN hm b0 L=>?_⟩;have T:k≠a:=λe=>by rw[e,D]at o;cases o
  have hpk:k≠j:=λe=>by rw[e,Y]at o;cases o
  have b3:H k=none:=by
   cases e:H k with
   |none=>rfl
   |some u=>rw[n _ _ T e]at o;cases o
  have b2:∀x∈t,H x.2.1=none:=λx hx=>by
   have B:=b0 x hx;cases e:H x.2.1 with
   |none=>rfl
   |some u=>rw[n _ _ (λz=>by rw[z,D]at B;cases B) e]at B;cases B
  have d4:¬ (("signs":Str)="numbers"):=by decide +kernel
  have d5:¬ (("start":Str)="numbers"):=by decide +kernel
  have d6:¬ (("kept":Str)="numbers"):=by decide +kernel
  have e6:cV "numbers" (V.ref k) [(("signs":Str),V.str (tx b)),(("start":Str),V.str (tx c)),(("kept":Str),V.ref j)]=iG b c j k:=by unfold iG;simp only[cV,q06 d4,q06 d5,q06 d6]
  have a6:=L _ _ D;refine⟨C,g,_,a6,cl,n4,by simp,?_⟩;rw[e6];refine h5 _ _ ?_;clear h5;have q:bW a H (aC H6 a (.ins C g (iG b c j k))):=(n.then L).put;have gf:vb R (aC H6 a (.ins C g (iG b c j k))) C g a b c G O j k t:=by
   refine⟨ad,by rw[aq U];exact L _ _ Y,S.upX ha q,⟨by rw[aq T];exact hN.dict,λx hx=>?_,hN.apart⟩,hm⟩;have hq:=hN.list x hx;rw[aq (λe=>by rw[e,a6]at hq;cases hq)];exact hq
  have a0:aC H6 a (.ins C g (iG b c j k)) a=some (.ins C g (iG b c j k)):=ad;have Z:aC H6 a (.ins C g (iG b c j k)) k=some (.dK (yn t)):=by rw[aq T];exact hN.dict
  generalize aC H6 a (.ins C g (iG b c j k))=H7 at q gf a0 Z ⊢;have I:(yn t).length=(bt (tx c) O).length:=by rw[<- hm];unfold yn kl;rw[My,My]
  ext;refine⟨C,g,_,a0,cl,n4,_,rfl,k,rfl,_,Z,?_⟩;rw[I]
  by_cases h8:8<(bt (tx c) O).length
  ·rw[q07 ⋯]
   refine⟨C,g,_,a0,cl,n4,_,rfl,k,rfl,_,Z,ao ⋯,λp hp=>⟨ao ⋯,λd hd=>?_⟩⟩;rw[I]at hd ⊢;have b1:p≠d:=λx=>by rw[<- x,ad]at hd;cases hd
   refine bad ("names",[((bt (tx c) O).length:Int)]) (by unfold fZ;rw[g0];simp only[];rw[q07 h8]) p d _ (((q.then (ae hp))).then (ae hd)) (by rw[aq b1,ad];rfl) ad
  ·rw[q06 ⋯]
   exact good (by unfold fZ;rw[g0];simp only[];rw[q06 h8]) H7 j k t q gf b4 b3 b2
abbrev eR:Stmt:=fG 52 2
inductive cr(R:RC)(C:Addr)(vs:List V)(H:Hp)(Q:VK)(_E:XK):Prop
 |mk (a dx:Addr) (sg st:Nu) (as:Ny) (rs:Yaa) (k:Nat) (b:Addr) (_:vs=[.ref a,.int (k:Int)]) (_:eJ R H C dx a sg st as rs) (_:as[k]?=some b) (_:Q (.ref b) H)
theorem vV:az ["self","k"] ["self","k"] (am eR):=by walk_at "c"
theorem vY{f:Addr}(F:cE K "rule" "Grammar.rule" eR f fd)(nb:NB mg)(cl:m8 K C)(na:av K C "signs"/\av K C "start"/\av K C "kept"/\av K C "numbers"):↑aY 1 f fd ["self","k"] (cr R C):=by
 have sc:=vV;walk_at "f"
 ·obtain⟨a,m,sg,st,as,rs,k,b,rfl,g,j,q⟩:=h
  obtain⟨c,pn,t,l,e,hrs,hN,hm⟩:=id g;have hu:=hr.units;refine⟨_,(aj (aG (au aO (bN (al 0) rfl) (al 1) (λ_ _=>rfl)))),?_⟩;ext;exact⟨C,m,_,l,cl,na.2.2.1,_,rfl,c,rfl,_,aT.of e,_,aM (by rw[MA,j];rfl),q⟩
abbrev fb:Stmt:=fG 52 3
inductive jb(R:RC)(C:Addr)(vs:List V)(H:Hp)(Q:VK)(_E:XK):Prop
 |mk (a dx:Addr) (sg st:Nu) (as:Ny) (rs:Yaa) (_:vs=[.ref a]) (_:eJ R H C dx a sg st as rs) (_:Q (.int (rs.length:Int)) H)
theorem vO:az ["self"] ["self"] (am fb):=by walk_at "c"
theorem vk{f:Addr}(F:cE K "many" "Grammar.many" fb f fd)(nb:NB mg)(cl:m8 K C)(na:av K C "signs"/\av K C "start"/\av K C "kept"/\av K C "numbers"):↑aY 1 f fd ["self"] (jb R C):=by
 have sc:=vO;walk_at "f"
 ·obtain⟨a,k,sg,st,as,rs,rfl,g,q⟩:=h
  obtain⟨c,pn,t,j,e,b,hN,hm⟩:=id g;have hu:=hr.units;refine⟨_,(aj (aG (ax aX rfl nb.len aW (aa (bN (al 0) rfl) ac)))),?_⟩;ext;refine⟨C,k,_,j,cl,na.2.2.1,_,rfl,c,rfl,_,aT.of e,?_⟩;rw[My,b.1];exact q
theorem uI(z:Str):∀t:NT,(kl t).lookup z=(t.find? λx=>decide (x.1=z)).map (·.2.2)
 | []=>rfl
 |x::t=>by
  have ih:=uI z t;unfold kl at ih ⊢;rw[M4,List.lookup_cons,List.find?_cons]
  by_cases e:x.1=z
  ·simp[e]
  ·have e':(z==x.1)=false:=by simpa using λh=>e h.symm
   rw[e',ih];simp[e]
abbrev b5:Stmt:=fG 52 5
inductive cA(R:RC)(C CN:Addr)(vs:List V)(H:Hp)(Q:VK)(E:XK):Prop
 |mk (a dx:Addr) (sg st:Nu) (as:Ny) (rs:Yaa) (z:Str) (_:vs=[.ref a,.str z]) (_:eJ R H C dx a sg st as rs) (_:(∀ns,(bt (tx st) rs).lookup z=some ns->∀l H',H l=none->H' l=some (.lst (yo ns))->aE H H'->Q (.ref l) H')) (_:((bt (tx st) rs).lookup z=none->E (.ref CN) none H))
theorem my:az ["self","name"] ["self","name"] (am b5):=by walk_at "c"
theorem mU{f yaa:Addr}(F:cE K "numbers_of" "Grammar.numbers_of" b5 f fd)(nb:NB mg)(cl:m8 K C)(na:av K C "signs"/\av K C "start"/\av K C "kept"/\av K C "numbers")(ya9:mg "NoName"=some (.ref yaa))(ybh:XR K yaa):aY P w K mg base (bI P w) 1 f fd ["self","name"] (cA R C yaa):=by
 have sc:=my;walk_at "x"
 ·obtain⟨a,j,r,p,D,u,z,rfl,_⟩:=h;rfl
 ·obtain⟨a,j,r,p,D,u,z,rfl,g,q,x⟩:=h
  obtain⟨lk,k,t,o,hk,hrs,e,B⟩:=id g;have m:=hr.units;refine⟨_,(af (bp (D3 (uo (Nc (Nh (by decide:1<=64) _) m) (al 1) (bN (al 0) rfl)) (by with_unfolding_all rfl))
   (aj (dS ybh rfl rfl ya9 (fE λ_ _ _ h=>h) (bJ ac)))
   aN)
   (aj (aG (eZ cX rfl nb.list gE (aa (wg (Nc (Nh (by decide:1<=64) _) m) (bN (al 0) rfl) (al 1) (λ_ _=>rfl)) ac))))),?_⟩
  ext;have b:=uI z t;have val:=yB z t;rw[B]at b;refine⟨C,j,_,o,cl,na.2.2.2,_,rfl,k,rfl,?_⟩;refine⟨_,.inl ⟨_,.inr z,.inl e.dict,rfl,rfl⟩,?_⟩;cases c:t.find? (λx=>decide (x.1=z)) with
  |none=>
   rw[c]at b val;rw[val];rw[q07 (by simp)];exact⟨ao ⋯,x b⟩
  |some y=>
   rw[c]at b val;rw[val];rw[q06 (by simp)];have v:=e.list y (List.mem_of_find?_eq_some c);exact⟨C,j,_,o,cl,na.2.2.2,_,rfl,k,rfl,_,.inl ⟨_,.inr z,.inl e.dict,rfl,val.symm⟩,_,rfl,_,.inl (aT.of v),λl n=>q _ b l _ n ad (ae n)⟩
abbrev uW:Stmt:=h_ 14
inductive j5(K:W.Frag)(CF:Addr)(vs:List V)(H:Hp)(Q:VK)(E:XK):Prop
 |mk (a b:Addr) (p q:bH) (r c r' c':Nat) (_:vs=[.ref a,.ref b]) (_:H a=some (.lst (aJ p))) (_:H b=some (.lst (aJ q))) (_:fL p r c) (_:fL q r' c') (_:0<r) (_:r<=6) (_:c<=6) (_:0<r') (_:r'<=6) (_:c'<=6) (_:(c=c'/\r+r'<=6->cS H (p++q) Q)) (_:(¬ (c=c'/\r+r'<=6)->E (.ref CF) none H))
theorem EB:az ["one","other"] ["one","other"] (am uW):=by walk_at "c"
theorem EG{f zia:Addr}{tk:Tok}(F:cE K "above" "above" uW f fd)(nb:NB mg)(yai:mg "MOST"=some (.int 6 tk))(zGb:mg "NoFit"=some (.ref zia))(zwb:XR K zia):aY P w K mg base (bI P w) 1 f fd ["one","other"] (j5 K zia):=by
 have sc:=EB;walk_at "x"
 ·obtain⟨a,b,p,q,r,c,D,I,rfl,_⟩:=h;rfl
 ·obtain⟨a,b,p,q,r,c,D,I,rfl,B,y,o,n,m,hr1,hc1,g,hr1',hc1',C,e⟩:=h
  refine⟨_,(af (bp (PW.pt (fm (aH nu (ax a_ rfl nb.len aW (aa (au aO (al 0) ai (λ_ _=>rfl)) ac)) (ax a_ rfl nb.len aW (aa (au aO (al 1) ai (λ_ _=>rfl)) ac)) (aL _)) (fB (aH (br.m0 jP) (aA (br.m0 bP) (ax aX rfl nb.len aW (aa (al 0) ac)) (ax aX rfl nb.len aW (aa (al 1) ac))) (dz (v:=.int 6) rfl yai ⟨_,rfl⟩) (aL _)))))
   (aj (dS zwb rfl rfl zGb (fE λ_ _ _ h=>h) (bJ ac)))
   aN)
   (aj (aG (aA oM (al 0) (al 1))))),?_⟩
  ext;obtain⟨u,x⟩:=dZ o m;obtain⟨j,k⟩:=dZ n g;refine⟨_,aT.of B,_,aM (bi u),_,rfl,by rw[ay];exact ao ⋯,_,aT.of y,_,aM (bi j),_,rfl,by rw[ay];exact ao ⋯,?_⟩;rw[ay,ay,x,k]
  by_cases h1:(c:Int)=(I:Int)
  ·rw[q06 (λh=>h h1)]
   refine⟨_,aT.of B,_,aT.of y,?_⟩;rw[aw,aw,o.1,n.1]
   by_cases h2:6<(r:Int)+(D:Int)
   ·rw[q07 h2]
    exact⟨ao ⋯,e ⋯⟩
   ·rw[q06 h2]
    refine⟨_,B,_,y,by rw[aw,aw,o.1,n.1];exact ao ⋯,λl G=>?_⟩;refine C ⟨⋯,⋯⟩ l _ G ?_ (ae G);rw[ad];unfold aJ;rw[MJ]
  ·rw[q07 h1]
   exact⟨ao ⋯,e ⋯⟩
abbrev qW:Stmt:=h_ 13
def put2(p q:bH):bH:=(p.zip q).map λx=>x.1++x.2
inductive i6(K:W.Frag)(CF:Addr)(vs:List V)(H:Hp)(Q:VK)(E:XK):Prop
 |mk (a b:Addr) (p q:bH) (r c r' c':Nat) (_:vs=[.ref a,.ref b]) (_:H a=some (.lst (aJ p))) (_:H b=some (.lst (aJ q))) (_:fL p r c) (_:fL q r' c') (_:0<r) (_:r<=6) (_:c<=6) (_:0<r') (_:r'<=6) (_:c'<=6) (_:(r=r'/\c+c'<=6->cS H (put2 p q) Q)) (_:(¬ (r=r'/\c+c'<=6)->E (.ref CF) none H))
theorem Cr:az ["one","other"] ["one","other"] (am qW):=by walk_at "c"
theorem Bj{f zia:Addr}{tk:Tok}(F:cE K "beside" "beside" qW f fd)(nb:NB mg)(yai:mg "MOST"=some (.int 6 tk))(zGb:mg "NoFit"=some (.ref zia))(zwb:XR K zia):aY P w K mg base (bI P w) 1 f fd ["one","other"] (i6 K zia):=by
 have sc:=Cr;walk_at "x"
 ·obtain⟨a,b,p,q,r,c,r',c',rfl,_⟩:=h;rfl
 ·obtain⟨a,b,p,q,r,c,r',c',rfl,R,O,L,J,U,hr1,hc1,C,hr1',hc1',a0,u⟩:=h
  refine⟨_,(af (bp (PW.pt (fm (aH nu (ax aX rfl nb.len aW (aa (al 0) ac)) (ax aX rfl nb.len aW (aa (al 1) ac)) (aL _)) (fB (aH (br.m0 jP) (aA (br.m0 bP) (ax a_ rfl nb.len aW (aa (au aO (al 0) ai (λ_ _=>rfl)) ac)) (ax a_ rfl nb.len aW (aa (au aO (al 1) ai (λ_ _=>rfl)) ac))) (dz (v:=.int 6) rfl yai ⟨_,rfl⟩) (aL _)))))
   (aj (dS zwb rfl rfl zGb (fE λ_ _ _ h=>h) (bJ ac)))
   aN)
   (aj (aG (b7 ["first","second"] [] rfl (bB.of (by kernel_rfl)) (by kernel_rfl) (Fm rfl nb.zip (aa (al 0) (aa (al 1) ac)))
    (λ_ _ _ _=>(qq (K:=K) (n:=2) rfl rfl (aU (aD (i:=0) (by show(["first","second"]:List Str).Nodup;decide +kernel) rfl (Or.inl rfl)) (aU (aD (i:=1) (by show(["first","second"]:List Str).Nodup;decide +kernel) rfl (Or.inl rfl)) cY)))) (λ_ _ _ _=>bK) (λ_ _ _ _=>(aA jv (al 0) (al 1))))))),?_⟩
  ext;obtain⟨Y,Z⟩:=dZ L U;obtain⟨G,I⟩:=dZ J C;refine⟨_,aT.of R,_,aT.of O,?_⟩;rw[aw,aw,L.1,J.1]
  by_cases h1:(r:Int)=(r':Int)
  ·rw[q06 (λh=>h h1)]
   refine⟨_,aT.of R,_,aM (bi Y),_,rfl,by rw[ay];exact ao ⋯,_,aT.of O,_,aM (bi G),_,rfl,by rw[ay];exact ao ⋯,?_⟩;rw[ay,ay,Z,I]
   by_cases h2:6<(c:Int)+(c':Int)
   ·rw[q07 h2]
    exact⟨ao ⋯,u ⋯⟩
   ·rw[q06 h2]
    refine⟨_,aT.of R,_,aT.of O,?_⟩;have o:p.length=r:=L.1;have B:q.length=r:=by rw[J.1];omega
    have D:(put2 p q).length=r:=by unfold put2;rw[My,q0K,o,B,Nat.min_self]
    refine wP (xs:=aJ p) (ys:=aJ q) (n:=r) (by rw[aw,aw,o,B,Nat.min_self]) (λi g σ m=>aE H m/\g=aJ ((put2 p q).take i)/\i<=r/\∃y z,σ=[y,z]) ⟨λ_ _ e=>e,rfl,MV _,_,_,rfl⟩ ?_ ?_ ?_ ?_ ?_
    ·rintro i g σ m ⟨_,rfl,M,_⟩
     rw[aw,Na];exact bf ⋯
    ·rintro i g σ m ⟨_,_,h,_⟩
     exact h
    ·rintro i g σ m ⟨j,_⟩
     exact⟨aT.of (j _ _ R),aT.of (j _ _ O)⟩
    ·rintro i x y g σ m T S hy ⟨j,rfl,_,y1,z1,rfl⟩ hT
     have M:i<p.length:=by have:=(Mw.mp S).1;rwa [aw]at this
     have k:i<q.length:=by omega
     rw[bi M]at S;rw[bi k]at hy;cases S;cases hy;have hrow:=L.2 _ (MF M);have yd2:=J.2 _ (MF k);ext;refine⟨_,aV.of ad,rfl,_,_,rfl,_,_,rfl,rfl,?_⟩;have e:(put2 p q)[i]?=some (p[i]++q[i]):=by
      unfold put2;simp[List.getElem?_zip_eq_some,M,k];exact⟨_,_,⟨rfl,rfl⟩,rfl⟩
     have et:tx p[i]++tx q[i]=tx (p[i]++q[i]):=by
      show(⟨_++_⟩:Str)=⟨_⟩;simp[tx]
     refine⟨_,rfl,_,rfl,by rw[ay,ay];exact ao ⋯,j.trans (ae hT),?_,⋯⟩;rw[et,q0D,e];exact(fD _ _).symm
    ·rintro g σ m ⟨j,rfl,_⟩ l hl
     refine a0 ⟨⋯,⋯⟩ l _ (j.free hl) ?_ (j.trans (ae hl));rw[ad,<- D,M']
  ·rw[q07 h1]
   exact⟨ao ⋯,u ⋯⟩
abbrev ri:Stmt:=h_ 17
inductive uk(K:W.Frag)(vs:List V)(H:Hp)(Q:VK)(_E:XK):Prop
 |mk (a:Addr) (p:bH) (_:vs=[.ref a]) (_:aT K H a (aJ p)) (_:ug p) (_:cS H (mirror p) Q)
theorem Cz:az ["picture"] ["picture"] (am ri):=by walk_at "c"
theorem C6{f:Addr}(F:cE K "mirror" "mirror" ri f fd)(nb:NB mg):↑aY 1 f fd ["picture"] (uk K):=by
 have sc:=Cz;walk_at "f"
 ·obtain⟨a,p,rfl,k,j,q⟩:=h
  refine⟨_,(aj (aG (b7 ["row"] [] rfl (bB.of (by kernel_rfl)) (by kernel_rfl) (cG (al 0))
    (λ_ _ _ _=>(aD (i:=0) (by show(["row"]:List Str).Nodup;decide +kernel) rfl (Or.inl rfl))) (λ_ _ _ _=>bK) (λ_ _ _ _=>(so rfl rfl nb.reversed (aa (al 0) ac)))))),?_⟩
  ext;refine⟨⟨_,k⟩,py (xs:=aJ p) (λi b σ e=>e=H/\b=aJ (mirror (p.take i))/\i<=p.length/\∃x,σ=[x]) ⟨rfl,rfl,MV _,_,rfl⟩ ?_ ?_ ?_ ?_ ?_⟩
  ·rintro i b σ e ⟨_,rfl,_⟩
   refine bf ?_;rw[aw];unfold mirror;rw[My,Na];have:=j.1;omega
  ·rintro i b σ e ⟨_,_,h,_⟩
   rw[aw];exact h
  ·rintro i b σ e ⟨rfl,_⟩
   exact k
  ·rintro i x b σ e g ⟨rfl,rfl,hi,y,rfl⟩
   have c:i<p.length:=by have:=(Mw.mp g).1;rwa [aw]at this
   rw[bi c]at g;cases g;have hr:=j.2 _ (MF c);ext;refine⟨by rw[ay];omega,nofun,?_,c⟩;rw[io,gF,q0D,Mv c];unfold mirror;rw[MJ];exact(fD _ _).symm
  ·rintro b σ e ⟨rfl,rfl,_⟩ l c
   rw[aw,M'];exact q l _ c ad (ae c)
abbrev dW:Stmt:=h_ 19
inductive uL(K:W.Frag)(vs:List V)(H:Hp)(Q:VK)(_E:XK):Prop
 |mk (a:Addr) (p:bH) (i:Nat) (_:vs=[.ref a,.int (i:Int)]) (_:aT K H a (aJ p)) (_:ug p) (_:(∀r∈p,i<r.length)) (_:∀H',aE H H'->Q (.str (tx (col p i))) H')
theorem BF:az ["picture","i"] ["picture","i"] (am dW):=by walk_at "c"
theorem Co{f:Addr}(F:cE K "column_from_below" "column_from_below" dW f fd)(nb:NB mg):↑aY 1 f fd ["picture","i"] (uL K):=by
 have sc:=BF;walk_at "f"
 ·obtain⟨a,p,i,rfl,B,o,C,q⟩:=h
  refine⟨_,(aj (aG (@AH _ _ _ _ _ _ _ _ (aa (b7 ["row"] [1] rfl (bB.of (by kernel_rfl)) (by kernel_rfl) (Ae rfl nb.reversed (aa (al 0) ac))
    (λ_ _ _ _=>(aD (i:=0) (by show(["row","i"]:List Str).Nodup;decide +kernel) rfl (Or.inl rfl))) (λ_ _ _ _=>bK) (λ_ _ _ _=>(au oE (al 0) (al 1) (λ_ _=>rfl)))) ac) rfl rfl))),?_⟩
  ext;have hd:∀n,((p.reverse.take n).map λr=>V.str ⟨#[r.getD i 0]⟩)=(((p.reverse.take n).map λr=>r.getD i 0).map λc=>(⟨#[c]⟩:Str)).map V.str:=λn=>by rw[ML,ML];rfl
  refine⟨rfl,_,B,xO (xs:=aJ p) (λn b σ j=>j=H/\b=((p.reverse.take n).map λr=>V.str ⟨#[r.getD i 0]⟩)/\n<=p.length/\∃x,σ=[x,some (.int (i:Int))]) ⟨rfl,rfl,MV _,_,rfl⟩ ?_ ?_ ?_ ?_ ?_⟩
  ·rintro n b σ j ⟨_,rfl,_⟩
   refine bf ?_;rw[My,Na];have:=o.1;rw[MO];omega
  ·rintro n b σ j ⟨_,_,h,_⟩
   rw[aw];exact h
  ·rintro n b σ j ⟨rfl,_⟩
   exact B
  ·rintro n x b σ j u ⟨rfl,rfl,hn,y,rfl⟩
   have g:n<p.reverse.length:=by
    have:=(Mw.mp u).1
    rwa [MO,aw,<- MO (as:=p)]at this
   have k:(aJ p.reverse)[n]?=some x:=by unfold aJ at u ⊢;rwa [List.map_reverse]
   rw[bi g]at k;cases k;have v:p.reverse[n]∈p:=List.mem_reverse.mp (MF g);have hr:=o.2 _ v;have m:=C _ v;ext;have D:(tx p.reverse[n]).cps.toList[i]?=some (p.reverse[n].getD i 0):=by rw[io,q0A,Mv m];rfl
   refine⟨by rw[ay];exact ao ⋯,_,aM D,?_,by rw[MO]at g;exact g⟩;rw[q0D,Mv g,MJ]
   rfl
  ·rintro b σ j ⟨rfl,rfl,_⟩ l g
   rw[aw,<- MO (as:=p),M']at *;refine⟨(col p i).map λc=>(⟨#[c]⟩:Str),.inl (aT.of ?_),?_,?_⟩
   ·rw[ad];unfold col;rw[ML,ML];rfl
   ·rw[ML]
    have e:((λy:Str=>y.length)∘λc=>(⟨#[c]⟩:Str))=λ_=>1:=by funext c;rfl
    rw[e,List.map_const',List.sum_replicate_nat,My];have G:(Str.ofString "").length=0:=rfl;rw[G];have:=o.1;unfold col;rw[My,MO];omega
   ·rw[gF];exact q _ (ae g)
abbrev oZ:Stmt:=h_ 18
inductive jk(K:W.Frag)(vs:List V)(H:Hp)(Q:VK)(_E:XK):Prop
 |mk (a:Addr) (p:bH) (r c:Nat) (_:vs=[.ref a]) (_:aT K H a (aJ p)) (_:fL p r c) (_:0<r) (_:r<=64) (_:c<=64) (_:cS H (gC p) Q)
theorem yA:az ["picture"] ["picture"] (am oZ):=by walk_at "c"
theorem yF{f:Addr}(F:cE K "quarter" "quarter" oZ f fd)(nb:NB mg)(ybu:↑cW 1 "column_from_below" ["picture","i"] (uL K)):↑aY 2 f fd ["picture"] (jk K):=by
 have sc:=yA;walk_at "f"
 ·obtain⟨a,p,r,c,rfl,G,j,g,u,v,q⟩:=h
  refine⟨_,(aj (aG (b7 ["i"] [0] rfl (bB.of (by kernel_rfl)) (by kernel_rfl) (dl rfl nb.range (aa (ax a_ rfl nb.len aW (aa (au aO (al 0) ai (λ_ _=>rfl)) ac)) ac))
    (λ_ _ _ _=>(aD (i:=0) (by show(["i","picture"]:List Str).Nodup;decide +kernel) rfl (Or.inl rfl))) (λ_ _ _ _=>bK) (λ_ _ _ _=>(aF ybu (hr.mono nofun) rfl aR (aa (al 1) (aa (al 0) ac))))))),?_⟩
  ext;have k:0<p.length:=by rw[j.1];exact g
  have B:(p[0]).length=c:=j.2 _ (MF k);have J:(p.headD []).length=c:=bD j g;refine⟨_,G,_,aM (bi k),_,rfl,by rw[ay];exact ao ⋯,by rw[ay];omega,by rw[ay];omega,?_⟩;rw[ay,B,MG];refine dE (lo:=0) (n:=c) (λi b σ m=>aE H m/\b=aJ ((List.range i).map (col p))/\i<=c/\∃x,σ=[x,some (.ref a)]) ⟨aE.refl _,rfl,MV _,_,rfl⟩ ?_ ?_ ?_ ?_
  ·rintro i b σ m ⟨_,rfl,_⟩
   refine bf ?_;rw[aw,My,q0G];omega
  ·rintro i b σ m ⟨_,_,h,_⟩
   exact h
  ·rintro i b σ m D ⟨e,rfl,_,y,rfl⟩
   ext;refine⟨a,p,i,by simp,e.seq G,ug.of j u v,λx I=>by rw[j.2 x I];exact D,λH2 o=>⟨e.trans o,?_,D⟩⟩;rw[q0J,MJ];exact(fD _ _).symm
  ·rintro b σ m ⟨e,rfl,_⟩ l C
   refine q l _ (e.free C) ?_ (e.trans (ae C));rw[ad];unfold gC;rw[J]
abbrev qR:Stmt:=h_ 16
inductive oB(K:W.Frag)(vs:List V)(H:Hp)(Q:VK)(_E:XK):Prop
 |mk (a:Addr) (p:bH) (r c t:Nat) (_:vs=[.ref a,.int (t:Int)]) (_:aT K H a (aJ p)) (_:fL p r c) (_:0<r) (_:0<c) (_:r<=64) (_:c<=64) (_:t<8) (_:cS H (turned p t) Q)
theorem Bc:az ["picture","t","result","step"] ["picture","t"] (am qR):=by walk_at "c"
theorem Bo{f:Addr}(F:cE K "turned" "turned" qR f fd)(nb:NB mg)(yba:↑cW 1 "mirror" ["picture"] (uk K))(ya5:↑cW 2 "quarter" ["picture"] (jk K)):↑aY 3 f fd ["picture","t"] (oB K):=by
 have sc:=Bc;walk_at "f"
 ·obtain⟨a,p,r,c,t,rfl,hS,hp,hr0,hc0,hr1,hc1,ht,q⟩:=h
  refine⟨_,(af (q01 2 sc.nd (eZ cX rfl nb.list gE (aa (pv 0) ac)))
   (af (bp (aH GU (pv 1) ai (aL _))
   (aj (q01 2 sc.nd (aF yba (hr.mono nofun) rfl aR (aa (pv 2) ac))))
   aN)
   (af (bL PassesOwn.never rfl (dl rfl nb.range (aa (aA bO (pv 1) ai) ac)) (q02 3 sc.nd)
   (aj (q01 2 sc.nd (aF ya5 (hr.mono nofun) rfl aR (aa (pv 2) ac)))))
   (aj (aG (pv 2)))))),?_⟩
  ext
  -- the bG,from the list at l
  have loop:∀(l:Addr) (p':bH) (H1:Hp),H l=none->H1 l=some (.lst (aJ p'))->aE H H1->fL p' r c->turned p t=bG (t%4) p' ->
    ∀(g:TG) (tb:TS) (D:iT),g=l8 3->tb=BR (pO (jk K) [] E0 (r_ (Bb 2) vR)) (l8 2)->(∀σ' H' v,σ'[2]?=some (some v)->Q v H'->D.nx σ' H')->vJ (Dd 0 ((t:Int)%4).toNat) g tb D [some (V.ref a),some (V.int t),some (V.ref l),none] H1:=by
   intro l p' H1 hl h1 sm hp' et g tb D hg htb hD;subst hg htb;have e4:((t:Int)%4).toNat=t%4:=by omega
   rw[e4];refine hJ (λi σ H2=>∃(l2:Addr) (x:Option V),σ=[some (V.ref a),some (V.int t),some (V.ref l2),x]/\H l2=none/\H2 l2=some (.lst (aJ (bG i p')))/\aE H H2) ⟨l,none,rfl,hl,h1,sm⟩ ?_ ?_
   ·rintro i σ H2 hi ⟨l2,x,rfl,h2,h3,sm2⟩
    ext;have hq:=dr i hp' hr0 hc0;have gp:∀r' c',fL (bG i p') r' c'->0<r'->r'<=64->c'<=64->jk K [V.ref l2] H2 (λx_1 H1=>∃l2,x_1=V.ref l2/\H l2=none/\H1 l2=some (HO.lst (aJ (bG (i+1) p')))/\aE H H1) E0:=λr' c' h4 h5 h6 h7=>
     ⟨l2,bG i p',r',c',rfl,aT.of h3,h4,h5,h6,h7,λl3 H3 h8 h9 sm3=>⟨l3,rfl,sm2.free h8,by rw[h9,<- ni 1 i p'];rfl,sm2.trans sm3⟩⟩
    by_cases hi2:i%2=0
    ·rw[q07 hi2,q07 hi2]at hq
     exact gp r c hq hr0 hr1 hc1
    ·rw[q06 hi2,q06 hi2]at hq
     exact gp c r hq hc0 hc1 hr1
   ·rintro σ H2 ⟨l2,x,rfl,h2,h3,sm2⟩
    exact hD _ _ _ rfl (q l2 H2 h2 (by rw[h3,et]) sm2)
  refine⟨_,.inl hS,λl hl=>?_⟩
  split
  ·rename_i h4
   refine⟨l,p,rfl,aT.of ad,ug.of hp hr1 hc1,λl2 H2 h2 h3 sm2=>⟨⋯,⋯,?_⟩⟩;refine loop l2 (mirror p) H2 ((ae hl).free h2) h3 ((ae hl).trans sm2) (iu hp) (by unfold turned;rw[q07 ⋯]) _ _ _ rfl rfl ?_;intro σ' H' v e hq;exact⟨v,e,hq⟩
  ·rename_i h4
   refine⟨⋯,⋯,?_⟩;refine loop l p _ hl ad (ae hl) hp (by unfold turned;rw[q06 ⋯]) _ _ _ rfl rfl ?_;intro σ' H' v e hq;exact⟨v,e,hq⟩
abbrev e_:Stmt:=fG 28 1
inductive jJ(C:Addr)(vs:List V)(H:Hp)(Q:VK)(_E:XK):Prop
 |mk (a dx l b:Addr) (n sg:Nu) (c:Int) (_:vs=[.ref a,.ref b]) (_:H a=some (.ins C dx (G4 n c l sg))) (_:cS H [sg] Q)
theorem wK:az ["self","pictures"] ["self","pictures"] (am e_):=by walk_at "c"
theorem u4{f:Addr}(F:cE K "made" "CellRule.made" e_ f fd)(cl:m8 K C)(na:av K C "sign"):↑aY 1 f fd ["self","pictures"] (jJ C):=by
 have sc:=wK;walk_at "f"
 ·obtain⟨a,j,l,b,n,sg,c,rfl,g,q⟩:=h
  refine⟨_,(aj (aG (bz (aa (bN (al 0) rfl) ac)))),?_⟩;ext;exact⟨C,j,_,g,cl,na,_,rfl,ao nofun,λp e=>q p _ e ad (ae e)⟩
inductive dQ(spf:Sp)(vs:List V)(H:Hp)(Q:VK)(E:XK):Prop
 |mk (a b a1 a2:Addr) (_:vs=[.ref a,.ref b]) (_:H b=some (.lst [.ref a1,.ref a2])) (_:spf [.ref a1,.ref a2] H Q E)
abbrev dq:Stmt:=fG 29 1
theorem q9:az ["self","pictures"] ["self","pictures"] (am dq):=by walk_at "c"
theorem sO{f zia:Addr}(F:cE K "made" "BesideRule.made" dq f fd)(ybj:cW P w K mg base (bI P w) 1 "beside" ["one","other"] (i6 K zia)):aY P w K mg base (bI P w) 2 f fd ["self","pictures"] (dQ (i6 K zia)):=by
 have sc:=q9;walk_at "x"
 ·obtain⟨a,b,g,e,rfl,_⟩:=h;rfl
 ·obtain⟨a,b,g,e,rfl,c,q⟩:=h
  refine⟨_,(aj (aG (aF (E:=E) ybj (hr.mono nofun) rfl (bo λ_ _ _ h=>h) (aa (au aO (al 1) ai (λ_ _=>rfl)) (aa (au aO (al 1) ai (λ_ _=>rfl)) ac))))),?_⟩;ext;exact⟨_,aT.of c,_,rfl,_,aT.of c,_,rfl,q⟩
abbrev dL:Stmt:=fG 30 1
theorem tH:az ["self","pictures"] ["self","pictures"] (am dL):=by walk_at "c"
theorem sW{f zia:Addr}(F:cE K "made" "AboveRule.made" dL f fd)(ybq:cW P w K mg base (bI P w) 1 "above" ["one","other"] (j5 K zia)):aY P w K mg base (bI P w) 2 f fd ["self","pictures"] (dQ (j5 K zia)):=by
 have sc:=tH;walk_at "x"
 ·obtain⟨a,b,g,e,rfl,_⟩:=h;rfl
 ·obtain⟨a,b,g,e,rfl,c,q⟩:=h
  refine⟨_,(aj (aG (aF (E:=E) ybq (hr.mono nofun) rfl (bo λ_ _ _ h=>h) (aa (au aO (al 1) ai (λ_ _=>rfl)) (aa (au aO (al 1) ai (λ_ _=>rfl)) ac))))),?_⟩;ext;exact⟨_,aT.of c,_,rfl,_,aT.of c,_,rfl,q⟩
inductive ju(K:W.Frag)(C:Addr)(vs:List V)(H:Hp)(Q:VK)(E:XK):Prop
 |mk (a dx l b a1:Addr) (n o1:Nu) (c t:Int) (_:vs=[.ref a,.ref b]) (_:H a=some (.ins C dx (GJ n c l o1 t))) (_:H b=some (.lst [.ref a1])) (_:oB K [.ref a1,.int t] H Q E0)
abbrev eV:Stmt:=fG 31 1
theorem v7:az ["self","pictures"] ["self","pictures"] (am eV):=by walk_at "c"
theorem wl{f:Addr}(F:cE K "made" "TurnRule.made" eV f fd)(cl:m8 K C)(na:av K C "turning")(zGe:↑cW 3 "turned" ["picture","t"] (oB K)):↑aY 4 f fd ["self","pictures"] (ju K C):=by
 have sc:=v7;walk_at "f"
 ·obtain⟨a,j,l,b,a1,n,o1,c,t,rfl,g,e,q⟩:=h
  refine⟨_,(aj (aG (aF zGe (hr.mono nofun) rfl aR (aa (au aO (al 1) ai (λ_ _=>rfl)) (aa (bN (al 0) rfl) ac))))),?_⟩;ext;exact⟨_,aT.of e,_,rfl,C,j,_,g,cl,na,_,rfl,q⟩
structure fA(p:bH)(r c:Nat):Prop where
 rc:fL p r c
 r0:0<r
 r6:r<=6
 c0:0<c
 c6:c<=6
inductive BM:Nat->List bH->Prop
 |cell:BM 0 []
 |beside {p q:bH} {r c r' c':Nat}:fA p r c->fA q r' c'->BM 1 [p,q]
 |above {p q:bH} {r c r' c':Nat}:fA p r c->fA q r' c'->BM 2 [p,q]
 |turn {p:bH} {r c:Nat}:fA p r c->BM 3 [p]
def DP(H:Hp)(l:Addr)(as:Ny)(ps:List bH):Prop:=H l=some (.lst (as.map V.ref))/\as.length=ps.length/\∀i (h1:i<as.length) (h2:i<ps.length),H as[i]=some (.lst (aJ ps[i]))
def fj(k:Nat)(v:RV)(ps:List bH):Option bH:=
 match k,ps with
 |0,_=>some [v.sg]
 |1,[p,q]=>if p.length=q.length/\(p.headD []).length+(q.headD []).length<=6 then some (put2 p q) else none
 |2,[p,q]=>if(p.headD []).length=(q.headD []).length/\p.length+q.length<=6 then some (p++q) else none
 |_,[p]=>some (turned p v.t.toNat)
 |_,_=>none
def rJ(K:W.Frag)(R:RC)(CF:Addr):List (Addr×Sp):=[(R.cc,jJ R.cc),(R.cb,dQ (i6 K CF)),(R.ca,dQ (j5 K CF)),(R.ct,ju K R.ct)]
theorem Fu{R:RC}{CF:Addr}{k a b}{v:RV}{as:Ny}{ps:List bH}{Q:VK}{E:XK}(r:i_ R H k a v)(ok:J8 k v)(pa:DP H b as ps)(ft:BM k ps)
  (q:∀p,fj k v ps=some p->cS H p Q) (x:fj k v ps=none->E (.ref CF) none H) :
  ∃o∈rJ K R CF,∃dx fs,H a=some (.ins o.1 dx fs)/\fs.lookup ("made":Str)=none/\o.2 [.ref a,.ref b] H Q E:=by
 obtain⟨dx,l,h1,_⟩:=r;obtain⟨I,G,y⟩:=pa;cases ft with
 |cell=>exact⟨(R.cc,jJ R.cc),by simp[rJ],dx,_,h1,rfl,a,dx,l,b,v.n,v.sg,v.c,rfl,h1,q _ rfl⟩
 | @beside p q' r c r' c' hp hq=>
  obtain⟨e,g,rfl⟩:∃e g,as=[e,g]:=by match as,G with | [e,g],_=>exact⟨e,g,rfl⟩
  have D:=y 0 (by simp) (by simp);have J:=y 1 (by simp) (by simp);have w:=bD hp.rc hp.r0;have u:=bD hq.rc hq.r0;have m:=hp.rc.1;have j:=hq.rc.1;refine⟨(R.cb,dQ (i6 K CF)),by simp[rJ],dx,_,h1,rfl,a,b,e,g,rfl,I,e,g,p,q',r,c,r',c',rfl,D,J,hp.rc,hq.rc,hp.r0,hp.r6,hp.c6,hq.r0,hq.r6,hq.c6,λC=>q _ ?_,λB=>x ?_⟩
  ·show(if _ then _ else _)=_
   rw[q07 (by rw[m,j,w,u];exact C)]
  ·show(if _ then _ else _)=_
   rw[q06 (by rw[m,j,w,u];exact B)]
 | @above p q' r c r' c' hp hq=>
  obtain⟨e,g,rfl⟩:∃e g,as=[e,g]:=by match as,G with | [e,g],_=>exact⟨e,g,rfl⟩
  have D:=y 0 (by simp) (by simp);have J:=y 1 (by simp) (by simp);have w:=bD hp.rc hp.r0;have u:=bD hq.rc hq.r0;have m:=hp.rc.1;have j:=hq.rc.1;refine⟨(R.ca,dQ (j5 K CF)),by simp[rJ],dx,_,h1,rfl,a,b,e,g,rfl,I,e,g,p,q',r,c,r',c',rfl,D,J,hp.rc,hq.rc,hp.r0,hp.r6,hp.c6,hq.r0,hq.r6,hq.c6,λC=>q _ ?_,λB=>x ?_⟩
  ·show(if _ then _ else _)=_
   rw[q07 (by rw[m,j,w,u];exact C)]
  ·show(if _ then _ else _)=_
   rw[q06 (by rw[m,j,w,u];exact B)]
 | @turn p r c hp=>
  obtain⟨e,rfl⟩:∃e,as=[e]:=by match as,G with | [e],_=>exact⟨e,rfl⟩
  have D:=y 0 (by simp) (by simp);have L:0<=v.t:=ok.2.1;have t7:v.t<=7:=ok.2.2;refine⟨(R.ct,ju K R.ct),by simp[rJ],dx,_,h1,rfl,a,dx,l,b,e,v.n,v.o1,v.c,v.t,rfl,h1,I,e,p,r,c,v.t.toNat,by rw[Nm L],aT.of D,hp.rc,hp.r0,hp.c0,by have:=hp.r6;omega,by have:=hp.c6;omega,⋯,q _ rfl⟩
abbrev qK:Stmt:=h_ 57
inductive ld(K:W.Frag)(vs:List V)(H:Hp)(Q:VK)(_E:XK):Prop
 |mk (a:Addr) (ns:List Int) (k:Nat) (_:vs=[.ref a,.int (k:Int)]) (_:aT K H a (ns.map V.int)) (_:k<=1000) (_:∀c:Int,Q (.int c) H)
theorem Bi:az ["_law_script","_law_k","_law_cell_here","_law_mixed"] ["_law_script","_law_k"] (am qK):=by walk_at "c"
theorem Bt{f:Addr}(F:cE K "_law_cell" "_law_cell" qK f fd)(nb:NB mg):↑aY 1 f fd ["_law_script","_law_k"] (ld K):=by
 have sc:=Bi;walk_at "f"
 ·obtain⟨a,ns,k,rfl,hS,hk,q⟩:=h
  refine⟨_,(af (q01 2 sc.nd ai)
   (af (bp (aH pC (pv 1) (ax aX rfl nb.len aW (aa (pv 0) ac)) (aL _))
   (aj (q01 2 sc.nd (au vo (pv 0) (pv 1) (λ_ _=>rfl))))
   aN)
   (af (q01 3 sc.nd (aA bO (aA fK (aA bP (aA bP (aA bO (pv 2) ai) (aA fK ai (pv 1))) ai) ai) ai))
   (aj (aG (aA bP (aA fK (aA cg (pv 2) ai) ai) (aA bO (aA bP (aA fK (pv 3) ai) (pv 1)) ai))))))),?_⟩
  ext;refine⟨_,hS,?_⟩;rw[My]
  split
  ·rename_i hlt
   have hlt':k<ns.length:=by omega
   refine⟨_,hS,V.int ns[k],aM (by rw[MA,Mv hlt'];rfl),?_⟩;ext;exact q _
  ·exact q _
def HP(d s m:Nat):List Nat:=(List.range (1+m)).map λi=>97+(d+(1+2*s)*i)%26
theorem Gs:∀d,d<26->∀s,s<6->∀m,m<4->dI (HP d s m)=true:=by decide +kernel
theorem Dm:∀n,n<26->(Str.ofString "abcdefghijklmnopqrstuvwxyz").cps.toList[n]?=some (97+n):=by decide +kernel
theorem jG(h:dI r=true):1<=r.length/\r.length<=4:=by
 unfold dI at h;simp only[q0L,q0W]at h;exact⟨h.1.1.1,h.1.1.2⟩
abbrev oP:Stmt:=h_ 60
inductive mE(vs:List V)(H:Hp)(Q:VK)(_E:XK):Prop
 |mk (c:Int) (_:vs=[.int c,.int 4]) (_:∀(r:Nu) (H':Hp),dI r=true->aE H H'->Q (.str (tx r)) H')
theorem zo:az ["_law_cell_here","_law_most","_law_letters","_law_step_here"] ["_law_cell_here","_law_most"] (am oP):=by walk_at "c"
theorem zi{f:Addr}(F:cE K "_law_signs" "_law_signs" oP f fd)(nb:NB mg):↑aY 1 f fd ["_law_cell_here","_law_most"] mE:=by
 have sc:=zo;walk_at "f"
 ·obtain⟨c,rfl,q⟩:=h
  refine⟨_,(af (aB (i:=2) sc.nd rfl (Or.inr rfl) rf)
   (af (aB (i:=3) sc.nd rfl (Or.inr rfl) (aA (br.m0 bP) ai (aA (br.m1 fK) ai (aA (br.m1 bO) (aA (br.m1 cg) (al 0) ai) ai))))
   (aj (aG (@AH _ _ _ _ _ _ _ _ (aa (b7 ["_law_k"] [2,0,3] rfl (bB.of (by kernel_rfl)) (by kernel_rfl) (dl rfl nb.range (aa (aA (br.m0 bP) ai (aA (br.m1 bO) (aA (br.m1 bO) (al 0) ai) (al 1))) ac))
    (λ_ _ _ _=>(aD (i:=0) (by show(["_law_k","_law_letters","_law_cell_here","_law_step_here"]:List Str).Nodup;decide +kernel) rfl (Or.inl rfl))) (λ_ _ _ _=>bK) (λ_ _ _ _=>(au oE (al 1) (aA (br.m1 bO) (aA (br.m0 bP) (aA (br.m1 cg) (al 2) ai) (aA (br.m1 fK) (al 3) (al 0))) ai) (λ_ _=>rfl)))) ac) rfl rfl))))),?_⟩
  obtain⟨m,v⟩:∃m:Nat,c%4%4=(m:Int):=⟨_,(Nm (Nk _ ⋯)).symm⟩;obtain⟨b,g⟩:∃m:Nat,c/104%6=(m:Int):=⟨_,(Nm (Nk _ ⋯)).symm⟩;obtain⟨d,C⟩:∃m:Nat,c/4%26=(m:Int):=⟨_,(Nm (Nk _ ⋯)).symm⟩;have r:m<4:=by omega
  have p:b<6:=by omega
  have I:d<26:=by omega
  symm;refine h1 _ _ ?_;grind;rw[g];refine h1 _ _ ?_;clear h1;ext;rw[v];have D:(1+(m:Int)).toNat=1+m:=by omega
  rw[D];refine⟨rfl,⋯,⋯,?_⟩;have k:∀i:Nat,(c/4+(1+2*(b:Int))*(i:Int))%26=(((d+(1+2*b)*i)%26:Nat):Int):=λi=>by
   rw[Int.add_emod,C]
   push_cast
   rw[Int.add_emod (d:Int) ((1+2*(b:Int))*(i:Int)),Int.emod_eq_of_lt (a:=(d:Int)) ⋯ ⋯]
  refine pM (n:=1+m) (f:=λi=>some (V.str ⟨#[97+(d+(1+2*b)*i)%26]⟩)) (λσ=>∃x,σ=[x,some (.str "abcdefghijklmnopqrstuvwxyz"),some (.int c),some (.int (1+2*(b:Int)))]) ⟨_,rfl⟩ ⋯ ?_ ?_
  ·rintro i hi σ J N1 N0 ⟨y,rfl⟩ e u k0
   ext;refine⟨.inl ⟨⋯,⋯⟩,nofun,97+(d+(1+2*b)*i)%26,?_,u _ _ _ rfl e ⟨_,rfl⟩⟩;rw[k i];exact aM (Dm _ (Nat.mod_lt _ ⋯))
  ·intro J e l B
   rw[jD];have j:(List.range (1+m)).map (λi=>V.str ⟨#[97+(d+(1+2*b)*i)%26]⟩)=((HP d b m).map λc=>(⟨#[c]⟩:Str)).map V.str:=by
    unfold HP;rw[ML,ML];rfl
   rw[j];have o:=Gs d I b p m r;have hgl:=jG o;refine⟨_,.inl (aT.of ad),?_,?_⟩
   ·rw[ML]
    have G:((λy:Str=>y.length)∘λc=>(⟨#[c]⟩:Str))=λ_=>1:=by funext c;rfl
    have j:(Str.ofString "").length=0:=rfl;rw[G,List.map_const',List.sum_replicate_nat,My,j];omega
   ·rw[gF]
    exact q _ _ o (e.trans (ae B))
theorem zO(r s:Nu):tx r++tx s=tx (r++s):=by
 show(⟨r.toArray++s.toArray⟩:Str)=⟨(r++s).toArray⟩;simp
theorem xP{row:Nu}{n:Nat}(h:n<=row.length):Txt.slice (tx row) none (some (n:Int))=tx (row.take n):=by
 rw[uD,HT.sIx_nat,Nn h];show tx ((row.drop 0).take (n-0))=_;rw[Np,Nat.sub_zero]
theorem yQ{row:Nu}{n:Nat}(h:n<=row.length):Txt.slice (tx row) (some (n:Int)) none=tx (row.drop n):=by
 rw[uD,HT.sIx_nat,Nn h];show tx ((row.drop n).take (row.length-n))=_;rw[q0E (by rw[Nb];omega)]
theorem Er:∀n,n<26->(Str.ofString "ABCDEFGHIJKLMNOPQRSTUVWXYZ").cps.toList[n]?=some (65+n):=by decide +kernel
def FA(c:Nat):Bool:=IG Hw c
theorem D2:∀n,n<26->FA (65+n)=true:=by decide +kernel
theorem HL(x:Int):∃n:Nat,n<26/\x%26=(n:Int):=⟨(x%26).toNat,⋯,⋯⟩
theorem FJ{r:Nu}(h:∀x∈r,FA x=true)(h1:1<=r.length)(h4:r.length<=4):dF r=true:=by
 have a:r.all (IG Hw)=true:=Ng.mpr h;unfold dF i8;rw[a];simp;omega
theorem Fj:∀(C:Fin 26) (s:Fin 6) (i j:Fin 4),(C.1+(1+2*s.1)*i.1)%26=(C.1+(1+2*s.1)*j.1)%26->i=j:=by decide +kernel
theorem CV{C:Int}{s i j:Nat}(hs:s<6)(hi:i<4)(hj:j<4)(h:((C+(1+2*(s:Int))*(i:Int))%26).toNat=((C+(1+2*(s:Int))*(j:Int))%26).toNat):i=j:=by
 have a:∀k:Nat,((C+(1+2*(s:Int))*(k:Int))%26).toNat=((C%26).toNat+(1+2*s)*k)%26:=λk=>by
  have b:(1+2*(s:Int))*(k:Int)=(((1+2*s)*k:Nat):Int):=by push_cast;rfl
  rw[b];omega
 rw[a,a]at h;exact q0O Fin.val (Fj ⟨(C%26).toNat,⋯⟩ ⟨s,hs⟩ ⟨i,hi⟩ ⟨j,hj⟩ h)
abbrev pf:Stmt:=h_ 61
inductive m4(vs:List V)(H:Hp)(Q:VK)(_E:XK):Prop
 |mk (c:Int) (_:vs=[.int c]) (_:∀(l:Addr) (p:bH) (H':Hp),H l=none->H' l=some (.lst (aJ p))->p.length=4->p.Nodup->(∀r∈p,dF r=true)->aE H H'->Q (.ref l) H')
theorem zD:az ["_law_cell_here","_law_letters","_law_size","_law_at","_law_step_here","_law_base","_law_names_here","_law_k","_law_letter"] ["_law_cell_here"] (am pf):=by walk_at "c"
theorem zf{f:Addr}(F:cE K "_law_names" "_law_names" pf f fd)(nb:NB mg):↑aY 1 f fd ["_law_cell_here"] m4:=by
 have sc:=zD;walk_at "f"
 ·obtain⟨c,rfl,q⟩:=h
  refine⟨_,(af (aB (i:=1) sc.nd rfl (Or.inr rfl) rf)
   (af (q01 2 sc.nd (aA (br.m0 bP) ai (aA (br.m1 bO) (al 0) ai)))
   (af (q01 3 sc.nd (aA (br.m1 bO) (aA (br.m1 cg) (al 0) ai) (al 2)))
   (af (q01 4 sc.nd (aA (br.m0 bP) ai (aA (br.m1 fK) ai (aA (br.m1 bO) (aA (br.m1 cg) (al 0) ai) ai))))
   (af (q01 5 sc.nd (@AH _ _ _ _ _ _ _ _ (aa (b7 ["_law_k"] [1,0] rfl (bB.of (by kernel_rfl)) (by kernel_rfl) (dl rfl nb.range (aa (al 2) ac))
    (λ_ _ _ _=>(aD (i:=0) (by show(["_law_k","_law_letters","_law_cell_here"]:List Str).Nodup;decide +kernel) rfl (Or.inl rfl))) (λ_ _ _ _=>bK) (λ_ _ _ _=>(au oE (al 1) (aA (br.m1 bO) (aA (br.m0 bP) (aA (br.m1 cg) (al 2) ai) (aA (br.m1 fK) ai (al 0))) ai) (λ_ _=>rfl)))) ac) rfl rfl))
   (af (q01 6 sc.nd (bz ac))
   (af (bL PassesOwn.never rfl (dl rfl nb.range (aI ac)) (q02 7 sc.nd)
   (af (q01 8 sc.nd (au oE (al 1) (aA (br.m1 bO) (aA (br.m0 bP) (aA (br.m1 cg) (al 0) ai) (aA (br.m1 fK) (al 4) (al 7))) ai) (λ_ _=>rfl)))
   (aj (bF (q03 (al 6) (aa (aA jv (aA jv (cJ zd (al 5) eC (cP (al 3))) (al 8)) (cJ zd (al 5) (cP (aA (br.m0 bP) (al 3) ai)) eC)) ac))))))
   (aj (aG (al 6)))))))))),?_⟩
  obtain⟨m,hm⟩:∃m:Nat,c%4=(m:Int):=⟨_,(Nm (Nk _ ⋯)).symm⟩;have m2:m<4:=by omega
  symm;refine h1 _ _ ?_;grind;refine h1 _ _ ?_;clear h1;rw[hm];symm;refine⟨⋯,h1 _ _ ?_⟩;clear h1;obtain⟨g,a3⟩:∃k:Nat,c/4%(1+(m:Int))=(k:Int):=⟨_,(Nm (Nk _ ⋯)).symm⟩;have hat2:g<1+m:=by have:=Nl (c/4) (b:=1+(m:Int)) ⋯;omega
  rw[a3];symm;refine h1 _ _ ?_;clear h1;obtain⟨M,a1,a0⟩:∃M:Nat,M<6/\1+2*(c/16%6)=1+2*(M:Int):=⟨(c/16%6).toNat,⋯,⋯⟩;rw[a0];generalize a4:1+2*(M:Int)=st;symm;have en:(1+(m:Int)).toNat=1+m:=by omega
  rw[en];refine⟨rfl,⋯,⋯,?_⟩
  let fc:Nat->Nat:=λi=>65+((c/96+5*(i:Int))%26).toNat
  refine pM (n:=1+m) (f:=λi=>some (V.str ⟨#[fc i]⟩)) (λσ=>∃x,σ=[x,some (.str "ABCDEFGHIJKLMNOPQRSTUVWXYZ"),some (.int c)]) ⟨_,rfl⟩ ⋯ ?_ ?_
  ·rintro i hi σ u N1 N0 ⟨y,rfl⟩ S k1 k0
   ext;obtain⟨n,h1,h2⟩:=HL (c/96+5*(i:Int));refine⟨nofun,fc i,?_,k1 _ _ _ rfl S ⟨_,rfl⟩⟩;show dY _ _=some (65+((c/96+5*(i:Int))%26).toNat);rw[h2];exact aM (Er n h1)
  ·intro u S l hl
   rw[jD];have e0:(List.range (1+m)).map (λi=>V.str ⟨#[fc i]⟩)=(((List.range (1+m)).map fc).map λc=>(⟨#[c]⟩:Str)).map V.str:=by rw[ML,ML];rfl
   rw[e0];have B:∀x∈(List.range (1+m)).map fc,FA x=true:=λx Z=>by
    obtain⟨i,_,rfl⟩:=Nf.mp Z;obtain⟨n,h1,h2⟩:=HL (c/96+5*(i:Int));show FA (65+((c/96+5*(i:Int))%26).toNat)=true;rw[h2];exact D2 n h1
   have a2:((List.range (1+m)).map fc).length=1+m:=by simp
   generalize(List.range (1+m)).map fc=cs at B a2 ⊢;refine⟨_,.inl (aT.of ad),?_,?_⟩
   ·rw[ML]
    have e1:((λy:Str=>y.length)∘λc=>(⟨#[c]⟩:Str))=λ_=>1:=by funext c;rfl
    have e0:(Str.ofString "").length=0:=rfl;rw[e1,List.map_const',List.sum_replicate_nat,My,e0];omega
   rw[gF];refine h1 _ _ ?_;clear h1;have T:=S.trans (ae (o:=.lst ((cs.map λc=>(⟨#[c]⟩:Str)).map V.str)) hl);generalize aC u l (.lst ((cs.map λc=>(⟨#[c]⟩:Str)).map V.str))=H1 at T ⊢;symm;refine⟨ao nofun,λD J=>h1 _ _ ?_⟩;clear h1;have L:=T.free J;have s2:=T.trans (ae (o:=.lst []) J);have e2:aC H1 D (.lst []) D=some (.lst []):=ad;generalize aC H1 D (.lst [])=H2 at s2 e2 ⊢;symm;refine⟨nofun,?_⟩;refine hJ (n:=4) (λi σ u=>aE H u/\(∃p:bH,u D=some (.lst (aJ p))/\p.length=i/\(∀r∈p,dF r=true)/\p=(List.range i).map fun(j:Nat)=>cs.take g++[65+((c/2496+st*(j:Int))%26).toNat]++cs.drop (g+1))/\∃x y,σ=[some (V.int c),some (V.str (Str.ofString "ABCDEFGHIJKLMNOPQRSTUVWXYZ")),some (V.int (1+(m:Int))),some (V.int (g:Int)),some (V.int st),some (V.str (tx cs)),some (V.ref D),x,y]) ⟨s2,⟨[],e2,rfl,(λr hr=>nomatch hr),rfl⟩,_,_,rfl⟩ ?_ ?_
   ·rintro i σ u hi ⟨v,⟨p,R,O,U,Y⟩,x,y,rfl⟩
    ext;obtain⟨n,I,G⟩:=HL (c/2496+st*(i:Int));have nm:dF (cs.take g++[65+n]++cs.drop (g+1))=true:=by
     refine FJ (λx Z=>?_) (by simp;omega) (by simp;omega);rcases MK.mp Z with h | h
     ·rcases MK.mp h with h | h
      ·exact B x (q0F h)
      ·rw[Mz.mp h];exact D2 n I
     ·exact B x (List.mem_of_mem_drop h)
    have a5:((g:Int)+1)=((g+1:Nat):Int):=by push_cast;rfl
    rw[xP ⋯,a5,yQ ⋯];have lt1:(cs.take g).length<=4:=by rw[Na];omega
    have lt2:(cs.drop (g+1)).length<=4:=by rw[Nb];omega
    have ez:tx (cs.take g)++(⟨#[65+n]⟩:Str)++tx (cs.drop (g+1))=tx (cs.take g++[65+n]++cs.drop (g+1)):=by rw[show(⟨#[65+n]⟩:Str)=tx [65+n] from rfl,zO,zO]
    refine⟨.inr ⟨⋯,⋯⟩,nofun,65+n,by rw[G];exact aM (Er n I),.inl ⟨rfl,_,aT.of R⟩,by rw[ay];exact ao ⋯,?_,by rw[ay];exact ao ⋯,?_,_,R,by rw[aw,O];exact bf ⋯,?_⟩
    ·rw[ay];exact ao (by show _+1<=_;omega)
    ·rw[show(⟨#[65+n]⟩:Str)=tx [65+n] from rfl,zO,ay,ay];exact ao (by simp;omega)
    ·rw[ez]
     refine⟨dP v L,p++[cs.take g++[65+n]++cs.drop (g+1)],?_,by rw[MT,O];rfl,λr hr=>?_,by rw[Y,q0J,MJ,List.map_singleton,G];rfl⟩
     ·rw[ad];unfold aJ;rw[MJ];rfl
     ·rcases MK.mp hr with h | h
      ·exact U r h
      ·rw[Mz.mp h];exact nm
   ·rintro σ u ⟨v,⟨p,R,O,U,Y⟩,x,y,rfl⟩
    refine h1 _ _ ?_;ext;refine q D p u L R O ?_ U v;rw[Y];refine List.pairwise_map.mpr ((List.pairwise_lt_range).imp_of_mem fun{a b} ha hb hab e=>?_);have e:=List.append_cancel_left (List.append_cancel_right e);have e:=(List.cons.inj e).1;have:=CV a1 (List.mem_range.mp ha) (List.mem_range.mp hb) (C:=c/2496) (by rw[a4];omega);omega
def fu(r:Nat×RV):List V:=match r.1 with
 |0=>[.str (tx r.2.n),.int r.2.c,.int 0,.str (tx r.2.sg),.str ""]
 |1=>[.str (tx r.2.n),.int r.2.c,.int 1,.str (tx r.2.o1),.str (tx r.2.o2)]
 |2=>[.str (tx r.2.n),.int r.2.c,.int 2,.str (tx r.2.o1),.str (tx r.2.o2)]
 |_=>[.str (tx r.2.n),.int r.2.c,.int 3,.str (tx r.2.o1),.int r.2.t]
def dX(H:Hp)(l:Addr)(ts:Ny)(rs:Yaa):Prop:=H l=some (.lst (ts.map V.ref))/\ts.length=rs.length/\∀(i:Nat) t r,ts[i]?=some t->rs[i]?=some r->H t=some (.tup (fu r))
theorem dX.up(h:dX H l ts rs)(s:aE H H'):dX H' l ts rs:=⟨s _ _ h.1,h.2.1,λi t r e1 e2=>s _ _ (h.2.2 i t r e1 e2)⟩
theorem gu{k:Nat}(h:k<4):k=0\/k=1\/k=2\/k=3:=by omega
structure cU(r:Nat×RV):Prop where
 k4:r.1<4
 good:r.2.good
 small:r.2.small
abbrev rU:Stmt:=h_ 62
inductive oF(R:RC)(vs:List V)(H:Hp)(Q:VK)(_E:XK):Prop
 |mk (t:Addr) (r:Nat×RV) (_:vs=[.ref t]) (_:H t=some (.tup (fu r))) (_:cU r) (_:∀b H',i_ R H' r.1 b r.2->aE H H'->Q (.ref b) H')
theorem C9:az ["_law_rule_here"] ["_law_rule_here"] (am rU):=by walk_at "c"
theorem BQ{f CF:Addr}(F:cE K "_law_rule" "_law_rule" rU f fd)(nb:NB mg)(rk:qh K R)
  (zXb:mw P w K mg base (bI P w) 4 "CellRule" R.cc ["self","name","cost","sign"] (jh K CF)) (zBb:mw P w K mg base (bI P w) 4 "BesideRule" R.cb ["self","name","cost","one","other"] (dM K CF))
  (zIb:mw P w K mg base (bI P w) 4 "AboveRule" R.ca ["self","name","cost","one","other"] (dM K CF)) (zYb:mw P w K mg base (bI P w) 4 "TurnRule" R.ct ["self","name","cost","part","turning"] (jE K CF)):↑aY 6 f fd ["_law_rule_here"] (oF R):=by
 have sc:=C9;walk_at "f"
 ·obtain⟨t,⟨k,v⟩,rfl,I,⟨J,g,B⟩,good⟩:=h
  refine⟨_,(af (bp (aH c7 (au ar (al 0) ai (λ_ _=>rfl)) ai (aL _))
   (aj (aG (ib (CX:=bI P w) zXb (hr.mono nofun) rfl bj (aa (au ar (al 0) ai (λ_ _=>rfl)) (aa (au ar (al 0) ai (λ_ _=>rfl)) (aa (au ar (al 0) ai (λ_ _=>rfl)) ac))))))
   aN)
   (af (bp (aH c7 (au ar (al 0) ai (λ_ _=>rfl)) ai (aL _))
   (aj (aG (ib (CX:=bI P w) zBb (hr.mono nofun) rfl bj (aa (au ar (al 0) ai (λ_ _=>rfl)) (aa (au ar (al 0) ai (λ_ _=>rfl)) (aa (au ar (al 0) ai (λ_ _=>rfl)) (aa (au ar (al 0) ai (λ_ _=>rfl)) ac)))))))
   aN)
   (af (bp (aH c7 (au ar (al 0) ai (λ_ _=>rfl)) ai (aL _))
   (aj (aG (ib (CX:=bI P w) zIb (hr.mono nofun) rfl bj (aa (au ar (al 0) ai (λ_ _=>rfl)) (aa (au ar (al 0) ai (λ_ _=>rfl)) (aa (au ar (al 0) ai (λ_ _=>rfl)) (aa (au ar (al 0) ai (λ_ _=>rfl)) ac)))))))
   aN)
   (aj (aG (ib (CX:=bI P w) zYb (hr.mono nofun) rfl bj (aa (au ar (al 0) ai (λ_ _=>rfl)) (aa (au ar (al 0) ai (λ_ _=>rfl)) (aa (au ar (al 0) ai (λ_ _=>rfl)) (aa (au ar (al 0) ai (λ_ _=>rfl)) ac)))))))))),?_⟩
  have a:=aV.of (K:=K) I;have g:v.good:=g;have B:v.small:=g.small;have C:v.n.length<=100000:=by have:=B.n;omega
  have D:v.o1.length<=100000:=by have:=B.o1;omega
  have G:v.o2.length<=100000:=by have:=B.o2;omega
  have bs:v.sg.length<=100000:=by have:=B.sg;omega
  ext;rcases gu J with rfl | rfl | rfl | rfl
  ·change aV K H t [.str (tx v.n),.int v.c,.int 0,.str (tx v.sg),.str ""]at a
   refine⟨_,a,_,rfl,rfl,?_⟩;rw[q07 rfl];refine⟨_,a,_,rfl,_,a,_,rfl,_,a,_,rfl,λx j o r q=>?_⟩;exact⟨x,R.cc,j,v.n,v.sg,v.c,rfl,ad,rk.i0.cl,rk.a0,C,bs,λok m y l p e u=>⟨rfl,good x y ⟨j,m,u,e⟩ (k7 o r l)⟩,λb=>q0N (g.ok 0) b⟩
  ·change aV K H t [.str (tx v.n),.int v.c,.int 1,.str (tx v.o1),.str (tx v.o2)]at a
   refine⟨_,a,_,rfl,rfl,?_⟩;rw[q06 nofun];refine⟨_,a,_,rfl,rfl,?_⟩;rw[q07 rfl];refine⟨_,a,_,rfl,_,a,_,rfl,_,a,_,rfl,_,a,_,rfl,λx j o r q=>?_⟩;exact⟨x,R.cb,j,v.n,v.o1,v.o2,v.c,rfl,ad,rk.i1.cl,rk.a1,C,D,G,λok m y l p e u=>⟨rfl,good x y ⟨j,m,u,e⟩ (k7 o r l)⟩,λb=>q0N (g.ok 1) b⟩
  ·change aV K H t [.str (tx v.n),.int v.c,.int 2,.str (tx v.o1),.str (tx v.o2)]at a
   refine⟨_,a,_,rfl,rfl,?_⟩;rw[q06 nofun];refine⟨_,a,_,rfl,rfl,?_⟩;rw[q06 nofun];refine⟨_,a,_,rfl,rfl,?_⟩;rw[q07 rfl];refine⟨_,a,_,rfl,_,a,_,rfl,_,a,_,rfl,_,a,_,rfl,λx j o r q=>?_⟩;exact⟨x,R.ca,j,v.n,v.o1,v.o2,v.c,rfl,ad,rk.i2.cl,rk.a2,C,D,G,λok m y l p e u=>⟨rfl,good x y ⟨j,m,u,e⟩ (k7 o r l)⟩,λb=>q0N (g.ok 2) b⟩
  ·change aV K H t [.str (tx v.n),.int v.c,.int 3,.str (tx v.o1),.int v.t]at a
   refine⟨_,a,_,rfl,rfl,?_⟩;rw[q06 nofun];refine⟨_,a,_,rfl,rfl,?_⟩;rw[q06 nofun];refine⟨_,a,_,rfl,rfl,?_⟩;rw[q06 nofun];refine⟨_,a,_,rfl,_,a,_,rfl,_,a,_,rfl,_,a,_,rfl,λx j o r q=>?_⟩;exact⟨x,R.ct,j,v.n,v.o1,v.c,v.t,rfl,ad,rk.i3.cl,rk.a3,C,D,λok m y l p e u=>⟨rfl,good x y ⟨j,m,u,e⟩ (k7 o r l)⟩,λb=>q0N (g.ok 3) b⟩
structure mh(p:bH)(sg:Nu)(r:Nat×RV):Prop where
 good:cU r
 n:r.2.n∈p
 o1:r.2.o1∈p
 o2:r.2.o2∈p
 sg:∃c∈sg,r.2.sg=[c]
theorem dX.app{t:Addr}(h:dX H l ts rs)(ht:H t=some (.tup (fu r))):dX (aC H l (.lst (ts.map V.ref++[V.ref t]))) l (ts++[t]) (rs++[r]):=by
 obtain⟨h1,h2,n⟩:=h;refine⟨by rw[ad,MJ];rfl,by rw[MT,MT,h2];rfl,λi c g b j=>?_⟩;have a:∀c g,H c=some (.tup (fu g))->aC H l (.lst (ts.map V.ref++[V.ref t])) c=some (.tup (fu g)):=λc g e=>by
  rw[aq (λz=>by rw[z,h1]at e;cases e)];exact e
 by_cases m:i<ts.length
 ·rw[MS m]at b
  rw[MS ⋯]at j;exact a _ _ (n i c g b j)
 ·rw[MR ⋯]at b
  rw[MR ⋯]at j;have k:i=ts.length:=by
   have:=(Mw.mp b).1;simp at this;omega
  subst k;rw[Nat.sub_self]at b;rw[h2,Nat.sub_self]at j;cases b;cases j
  exact a _ _ ht
theorem xj(h:dI r=true):i8 r sG=true:=by
 unfold dI at h;simp only[q0L,q0W]at h;exact h.1.2
theorem wE{c:Nat}(h:dI r=true)(hc:c∈r):i9 [c]=true:=by
 have:=xj h;unfold i8 at this;rw[Ng]at this;unfold i9 i8;rw[List.all_cons,this c hc]
 rfl
def dD(ks:ND)(z:Str):List Str:=if z∈ks then ks else ks++[z]
theorem tY(m:List (Str×List Nat))(z:Str):(b9 m z).map (·.1)=dD (m.map (·.1)) z:=by
 unfold b9 dD
 split
 ·rfl
 ·rw[MJ];rfl
theorem sP:∀(zs:ND) (m:List (Str×List Nat)),(zs.foldl b9 m).map (·.1)=zs.foldl dD (m.map (·.1))
 | [],_=>rfl
 |z::zs,m=>by rw[List.foldl_cons,List.foldl_cons,sP zs,tY]
theorem B7(m:List (Str×List Nat))(i:Nat)(r:Nat×RV):(fS m i r).map (·.1)=(tx r.2.n::(bh r.1 r.2).map tx).foldl dD (m.map (·.1)):=by
 unfold fS;rw[sP,jo,tY,List.foldl_cons]
theorem yS(ks:ND)(z:Str):(dD ks z).length<=ks.length+1:=by
 unfold dD;split
 ·omega
 ·simp
def bS(z:Str)(rs:Yaa):List Nat:=rs.zipIdx.filterMap λx=>if tx x.1.2.n=z then some x.2 else none
theorem sr(z:Str)(rs:Yaa)(r:Nat×RV):bS z (rs++[r])=bS z rs++if tx r.2.n=z then[rs.length] else[]:=by
 unfold bS;rw[List.zipIdx_append,List.filterMap_append]
 congr 1
 simp
 split<;>rename_i h<;>simp[h]
theorem zy{z:Str}:∀{rs:Yaa},(∀r∈rs,tx r.2.n≠z)->bS z rs=[]:=by
 intro rs h;unfold bS;rw[List.filterMap_eq_nil_iff];intro x a;rw[q06 (h x.1 (List.fst_mem_of_mem_zipIdx a))]
structure NI(rs:Yaa)(m:List (Str×List Nat)):Prop where
 nd:(m.map (·.1)).Nodup
 ix:∀q∈m,q.2=bS q.1 rs
 all:∀r∈rs,tx r.2.n∈m.map (·.1)
theorem rh{z y:Str}:y∈(b9 m z).map (·.1)↔y∈m.map (·.1)\/y=z:=by
 unfold b9
 split
 ·rename_i h
  exact⟨λq=>.inl q,λq=>q.elim id λe=>e▸h⟩
 ·rw[MJ,MK];simp
theorem NI.name(h:NI rs m)(z:Str):NI rs (b9 m z):=by
 refine⟨nO h.nd,λq hq=>?_,λr hr=>rh.mpr (.inl (h.all r hr))⟩;unfold b9 at hq
 split at hq
 ·exact h.ix q hq
 ·rename_i hz
  rcases MK.mp hq with q1 | q1
  ·exact h.ix q q1
  ·rw[Mz.mp q1]
   exact(zy (z:=z) λr hr e=>hz (by rw[<- e];exact h.all r hr)).symm
theorem NI.names:∀(zs:ND) {m:List (Str×List Nat)},NI rs m->NI rs (zs.foldl b9 m)
 | [],_,h=>h
 |z::zs,m,h=>NI.names zs (h.name z)
theorem NI.put{r:Nat×RV}(h:NI rs m)(hn:tx r.2.n∈m.map (·.1)):NI (rs++[r]) (jN m (tx r.2.n) rs.length):=by
 refine⟨by rw[jo];exact h.nd,λq b=>?_,λg a=>?_⟩
 ·unfold jN at b
  obtain⟨p,c,rfl⟩:=Nf.mp b;rw[sr]
  by_cases e:p.1=tx r.2.n
  ·rw[q07 e]
   show p.2++[rs.length]=bS p.1 rs++_;rw[q07 e.symm,h.ix p c]
  ·rw[q06 e,q06 (λz=>e z.symm),M8]
   exact h.ix p c
 ·rw[jo]
  rcases MK.mp a with q | q
  ·exact h.all g q
  ·rw[Mz.mp q];exact hn
theorem o_(z:Str):∀(n:Nat) (rs:Yaa),rs.length=n->NI rs (bt z rs)
 |0,rs,h=>by
  rw[Nd.mp h];exact⟨by simp[bt,g9],λq hq=>by rw[show q=(z,[]) by simpa[bt,g9]using hq];rfl,λr hr=>nomatch hr⟩
 |n+1,rs,h=>by
  obtain⟨rs',r,rfl⟩:∃rs' r,rs=rs'++[r]:=⟨rs.dropLast,rs.getLast (by intro e;rw[e]at h;cases h),(List.dropLast_concat_getLast _).symm⟩;have hl:rs'.length=n:=by rw[MT,q0U]at h;omega
  have a:=o_ z n rs' hl;unfold bt at a ⊢;rw[iq,Nat.zero_add];unfold fS;exact((a.name (tx r.2.n)).put (rh.mpr (.inr rfl))).names _
theorem uh:∀{m:List (Str×List Nat)} {q:Str×List Nat},(m.map (·.1)).Nodup->q∈m->m.lookup q.1=some q.2
 |p::m,q,hnd,hq=>by
  rw[M4,q0X]at hnd;rw[List.lookup_cons];rcases MM.mp hq with e | e
  ·rw[e];simp
  ·have hne:q.1≠p.1:=λz=>hnd.1 (z▸List.mem_map_of_mem e)
   have:(q.1==p.1)=false:=beq_eq_false_iff_ne.mpr hne;rw[this];exact uh hnd.2 e
theorem Ar{z:Str}{q:Str×List Nat}(h:q∈bt z rs):(bt z rs).lookup q.1=some (bS q.1 rs)/\q.2=bS q.1 rs:=by
 have N:=o_ z _ rs rfl;have e:=N.ix q h;exact⟨by rw[uh N.nd h,e],e⟩
theorem ua(z:Str)(rs:Yaa):(bS z rs).length<=rs.length:=by
 unfold bS;exact M5 (List.length_filterMap_le _ _) (by rw[List.length_zipIdx];exact MU _)
theorem zW{Q:List V->Hp->Prop}(hR:dX H l ts rs)(hg:∀r∈rs,cU r)(hn:rs.length<=100)(q:∀(as:Ny) H',aE H H'->cR R H' as rs->Q (as.map V.ref) H') :
  i4 (Fx K l) (l8 0) Av (pO (oF R) [] E0 (r_ (Bb 0) vR)) [none] H Q:=by
 obtain⟨I,w,B⟩:=hR;refine py (xs:=ts.map V.ref) (λi c σ H'=>aE H H'/\(∃as:List Addr,c=as.map V.ref/\cR R H' as (rs.take i))/\i<=ts.length/\∃x,σ=[x]) ⟨aE.refl _,⟨[],rfl,rfl,λi a r e=>by simp at e⟩,MV _,_,rfl⟩ ?_ ?_ ?_ ?_ ?_
 ·rintro i c σ H' ⟨_,⟨as,rfl,h,_⟩,J,_⟩
  rw[My,h,Na];exact bf ⋯
 ·rintro i c σ H' ⟨_,_,h,_⟩
  rw[My];exact h
 ·rintro i c σ H' ⟨m,_⟩
  exact aT.of (m _ _ I)
 ·rintro i x c σ H' v ⟨m,⟨as,rfl,g⟩,J,y,rfl⟩
  have k:i<ts.length:=by have:=(Mw.mp v).1;rwa [My]at this
  rw[MA,Mv k]at v;cases v;have p:i<rs.length:=by omega
  have o:rs[i]?=some rs[i]:=Mv p;have G:=m _ _ (B i ts[i] rs[i] (Mv k) o);ext;refine⟨ts[i],rs[i],rfl,G,hg _ (MF p),λb H2 L C=>⟨m.trans C,⟨as++[b],by rw[MJ];rfl,?_⟩,k⟩⟩;have hal:as.length=i:=by have:=g.1;rw[Na]at this;omega
  rw[q0D,o];refine⟨by rw[MT,MT,g.1];rfl,λj a r n u=>?_⟩
  by_cases D:j<as.length
  ·rw[MS D]at n
   rw[MS (by rw[<- g.1];exact D)]at u;exact(g.2 j a r n u).up C
  ·rw[MR ⋯]at n
   rw[MR (by rw[<- g.1];omega)]at u;have:j-as.length=0:=by
    have:=(Mw.mp n).1;simp at this;omega
   rw[this]at n;rw[<- g.1,this]at u;cases n;cases u
   exact L
 ·rintro c σ H' ⟨m,⟨as,rfl,g⟩,_⟩
  rw[My,w,M']at g;exact q as H' m g
def GO(rs:Yaa):List ThM.NR:=rs.map λr=>(tx r.2.n,(bh r.1 r.2).map tx)
theorem yT{ks:ND}{z y:Str}:y∈dD ks z↔y∈ks\/y=z:=ThM.mem_addNew
theorem nY{y:Str}:∀(zs ks:ND),y∈zs.foldl dD ks↔y∈ks\/y∈zs
 | [],ks=>by simp
 |z::zs,ks=>by
  rw[List.foldl_cons,nY zs,yT,MM];exact⟨λh=>h.elim (λh=>h.elim .inl λe=>.inr (.inl e)) λh=>.inr (.inr h),λh=>h.elim (λh=>.inl (.inl h)) λh=>h.elim (λe=>.inl (.inr e)) .inr⟩
theorem nE:∀(zs ks:ND),(zs.foldl dD ks).length<=ks.length+zs.length
 | [],ks=>MU _
 |z::zs,ks=>by
  have h1:=nE zs (dD ks z);have h2:=yS ks z;rw[List.foldl_cons,MI];omega
theorem B9(z:Str)(rs:Yaa)(r:Nat×RV):(bt z (rs++[r])).map (·.1)=(tx r.2.n::(bh r.1 r.2).map tx).foldl dD ((bt z rs).map (·.1)):=by
 unfold bt;rw[iq,B7]
theorem EE{α:Type}{P:List α->Prop}(h0:P [])(h1:∀rs r,P rs->P (rs++[r]))(rs:List α):P rs:=by
 have:∀(n:Nat) (rs:List α),rs.length=n->P rs:=by
  intro n
  induction n with
  |zero=>intro rs h;rw[Nd.mp h];exact h0
  |succ n ih=>
   intro rs h;have a:rs≠[]:=by intro e;rw[e]at h;cases h
   rw[<- List.dropLast_concat_getLast a];exact h1 _ _ (ih _ (by rw[List.length_dropLast];omega))
 exact this _ rs rfl
theorem ol(z:Str)(rs:Yaa):∀y,y∈(bt z rs).map (·.1)↔y=z\/∃r∈GO rs,y=r.1\/y∈r.2:=by
 refine EE (P:=λrs=>∀y,y∈(bt z rs).map (·.1)↔y=z\/∃r∈GO rs,y=r.1\/y∈r.2) ?_ ?_ rs
 ·intro y
  have e:(bt z []).map (·.1)=[z]:=rfl;rw[e];unfold GO;simp
 ·intro rs r a y
  rw[B9,nY,a y,MM];unfold GO;rw[MJ]
  constructor
  ·rintro((h | ⟨q,hq,h⟩) | h)
   ·exact .inl h
   ·exact .inr ⟨q,MK.mpr (.inl hq),h⟩
   ·exact .inr ⟨_,MK.mpr (.inr (Mz.mpr rfl)),h⟩
  ·rintro(h | ⟨q,hq,h⟩)
   ·exact .inl (.inl h)
   ·rcases MK.mp hq with hq | hq
    ·exact .inl (.inr ⟨q,hq,h⟩)
    ·rw[Mz.mp hq]at h
     exact .inr h
theorem FQ{sg:Nu}{c:Nat}(h:c∈sg):Jc (tx sg) (tx [c])=true:=by
 have:=StrLaws.found_one (tx sg) c;show(!(Builtin.Str.occurrences (tx sg) ⟨#[c]⟩ 0 (tx sg).length 1).isEmpty)=true;rw[this,io,q09 h]
theorem nI{sg:Nu}:∀{rs:Yaa} {j:Nat},(∀r∈rs,∃c∈sg,r.2.sg=[c])->iw (tx sg) rs j=none
 | [],_,_=>rfl
 |r::rs,j,h=>by
  obtain⟨c,hc,e⟩:=h r q0B;unfold iw;rw[q06 (λz=>by rw[e,FQ hc]at z;exact q0N z.2 nofun)];exact nI λr' hr'=>h r' (MN _ hr')
theorem uM{p:bH}{st:Nu}{rs:Yaa}(hsg:dI sg=true)(hst:st∈p)(hpn:∀r∈p,dF r=true)(hp:p.length<=8)(hn:rs.length<=24)(hr:∀r∈rs,mh p sg r):fZ sg st rs=none:=by
 have l:jt sg st rs=none:=by
  unfold jt;rw[q06 (by rw[hsg];decide),q06 (by rw[hpn _ hst];decide),q06 ⋯,nI λr h=>(hr r h).sg]
 unfold fZ;rw[l];simp only[];rw[q06];have j:∀z∈(bt (tx st) rs).map (·.1),z∈p.map tx:=λz g=>by
  rcases(ol _ _ _).mp g with e | ⟨q,c,e⟩
  ·rw[e];exact List.mem_map_of_mem hst
  ·unfold GO at c
   obtain⟨r,b,rfl⟩:=Nf.mp c;have R:=hr r b;rcases e with e | e
   ·rw[e];exact List.mem_map_of_mem R.n
   ·obtain⟨y,a,rfl⟩:=Nf.mp e
    refine List.mem_map_of_mem ?_;obtain⟨k,v⟩:=r;rcases gu R.good.k4 with rfl | rfl | rfl | rfl
    ·exact q0N a List.not_mem_nil
    ·rcases(show y=v.o1\/y=v.o2 by simpa[bh]using a) with rfl | rfl
     ·exact R.o1
     ·exact R.o2
    ·rcases(show y=v.o1\/y=v.o2 by simpa[bh]using a) with rfl | rfl
     ·exact R.o1
     ·exact R.o2
    ·rw[show y=v.o1 by simpa[bh]using a];exact R.o1
 have:=ThM.nd_len (o_ (tx st) _ rs rfl).nd j;rw[My,My]at this;omega
structure JP(K:W.Frag)(C:Addr):Prop where
 cl:fY K C
 na:av K C "signs"/\av K C "start"/\av K C "kept"/\av K C "numbers"
abbrev TR:=List Nat×Nat×Nat×Int
def fw(r c:Nat):Int:=2*(r:Int)*(c:Int)-1
theorem iL(r c:Nat):fw r c=2*((r*c:Nat):Int)-1:=by unfold fw;push_cast;rw[Int.mul_assoc]
theorem bR{r c:Nat}(hr:1<=r)(hc:1<=c):1<=fw r c:=by
 rw[iL];have:1<=r*c:=Nat.mul_pos hr hc;omega
def ja(lo hi:Int):List Int:=(List.range (hi-lo).toNat).map fun(j:Nat)=>lo+(j:Int)
theorem k_{lo hi x:Int}:x∈ja lo hi↔lo<=x/\x<hi:=by
 unfold ja;rw[Nf]
 constructor
 ·rintro⟨j,a,rfl⟩
  rw[List.mem_range]at a;omega
 ·rintro⟨h1,h2⟩
  exact⟨(x-lo).toNat,by rw[List.mem_range];omega,⋯⟩
def bc(o1 o2:Nu)(szs:List ((Nat×Nat)×(Nat×Nat)))(left:Int):List (List TR):=
 szs.flatMap λz=>(ja (fw z.1.1 z.1.2) (left-fw z.2.1 z.2.2+1)).map λf=>[(o1,z.1.1,z.1.2,f),(o2,z.2.1,z.2.2,left-f)]
def fg(r c:Nat):List ((Nat×Nat)×(Nat×Nat)):=(List.range (c-1)).map λi=>((r,1+i),(r,c-(1+i)))
def fF(r c:Nat):List ((Nat×Nat)×(Nat×Nat)):=(List.range (r-1)).map λi=>((1+i,c),(r-(1+i),c))
def bT(q:Nat×RV)(r c:Nat)(k:Int):List (List TR):=match q.1 with
 |0=>if r=1/\c=1/\k=q.2.c then[[]] else[]
 |1=>bc q.2.o1 q.2.o2 (fg r c) (k-q.2.c)
 |2=>bc q.2.o1 q.2.o2 (fF r c) (k-q.2.c)
 |_=>[[(q.2.o1,if q.2.t%2=1 then c else r,if q.2.t%2=1 then r else c,k-q.2.c)]]
def aS(f:TR->Nat)(ps:List TR):Nat:=ps.foldl (λm p=>m*f p) 1
def cB(z:Nu)(rs:Yaa):Yaa:=rs.filter λq=>decide (q.2.n=z)
def cnt(rs:Yaa):Nat->TR->Nat
 |0,_=>0
 |f+1,p=>if p.2.1=0\/p.2.2.1=0\/6<p.2.1\/6<p.2.2.1\/p.2.2.2<fw p.2.1 p.2.2.1 then 0 else
  ((cB p.1 rs).map λq=>((bT q p.2.1 p.2.2.1 p.2.2.2).map λps=>aS (cnt rs f) ps).sum).sum
structure Hv(q:Nat×RV)(r c:Nat)(k:Int)(p:TR):Prop where
 lt:p.2.2.2<k
 ge:1<=p.2.2.2\/k-q.2.c<=p.2.2.2
 r1:1<=p.2.1
 c1:1<=p.2.2.1
 rm:p.2.1<=max r c
 cm:p.2.2.1<=max r c
 nm:(p.1=q.2.o1)\/(p.1=q.2.o2/\(q.1=1\/q.1=2))
theorem gB{szs:List ((Nat×Nat)×(Nat×Nat))}{left:Int}{ps:List TR}(h:ps∈bc o1 o2 szs left) :
  ∃z∈szs,∃f,fw z.1.1 z.1.2<=f/\f<=left-fw z.2.1 z.2.2/\ps=[(o1,z.1.1,z.1.2,f),(o2,z.2.1,z.2.2,left-f)]:=by
 unfold bc at h;obtain⟨z,a,h⟩:=List.mem_flatMap.mp h;obtain⟨f,b,e⟩:=Nf.mp h;have:=k_.mp b;exact⟨z,a,f,this.1,⋯,e.symm⟩
theorem zR{z:(Nat×Nat)×(Nat×Nat)}(h:z∈fg r c):z.1.1=r/\z.2.1=r/\1<=z.1.2/\1<=z.2.2/\z.1.2+z.2.2=c:=by
 obtain⟨i,a,rfl⟩:=Nf.mp h;rw[List.mem_range]at a;refine⟨rfl,rfl,?_,?_,?_⟩<;>show _<;>simp<;>omega
theorem yy{z:(Nat×Nat)×(Nat×Nat)}(h:z∈fF r c):z.1.2=c/\z.2.2=c/\1<=z.1.1/\1<=z.2.1/\z.1.1+z.2.1=r:=by
 obtain⟨i,a,rfl⟩:=Nf.mp h;rw[List.mem_range]at a;refine⟨rfl,rfl,?_,?_,?_⟩<;>show _<;>simp<;>omega
structure vK(r c:Nat)(z:(Nat×Nat)×(Nat×Nat)):Prop where
 a:1<=z.1.1
 b:1<=z.1.2
 d:1<=z.2.1
 e:1<=z.2.2
 ma:z.1.1<=max r c
 mb:z.1.2<=max r c
 md:z.2.1<=max r c
 me:z.2.2<=max r c
 fe:fw z.1.1 z.1.2+fw z.2.1 z.2.2+1=fw r c
theorem iV{r:Nat}(hr:1<=r){z:(Nat×Nat)×(Nat×Nat)}(h:z∈fg r c):vK r c z:=by
 obtain⟨h1,h2,k,j,g⟩:=zR h;obtain⟨⟨a,b⟩,d,e⟩:=z;simp only at h1 h2 k j g;subst h1 h2 g;refine⟨hr,k,hr,j,by simp;omega,by simp;omega,by simp;omega,by simp;omega,?_⟩;simp only[iL,Nat.mul_add];omega
theorem iR{c:Nat}(hc:1<=c){z:(Nat×Nat)×(Nat×Nat)}(h:z∈fF r c):vK r c z:=by
 obtain⟨h1,h2,k,j,g⟩:=yy h;obtain⟨⟨a,b⟩,d,e⟩:=z;simp only at h1 h2 k j g;subst h1 h2 g;refine⟨k,hc,j,hc,by simp;omega,by simp;omega,by simp;omega,by simp;omega,?_⟩;simp only[iL,Nat.add_mul];omega
theorem dA{q:Nat×RV}{r c:Nat}{ps:List TR}(h4:q.1<4)(hr:1<=r)(hc:1<=c)(h:ps∈bT q r c k) :
  ps=[]\/(∃p,ps=[p]/\p.1=q.2.o1/\p.2.2.2=k-q.2.c/\((p.2.1=r/\p.2.2.1=c)\/(p.2.1=c/\p.2.2.1=r))) \/
  ((q.1=1\/q.1=2)/\∃z f,vK r c z/\fw z.1.1 z.1.2<=f/\f<=k-q.2.c-fw z.2.1 z.2.2/\ps=[(q.2.o1,z.1.1,z.1.2,f),(q.2.o2,z.2.1,z.2.2,k-q.2.c-f)]):=by
 obtain⟨t,v⟩:=q;have:t=0\/t=1\/t=2\/t=3:=by simp at h4;omega
 rcases this with rfl | rfl | rfl | rfl
 ·left
  change ps∈(if r=1/\c=1/\k=v.c then[[]] else[]) at h
  split at h
  ·simpa using h
  ·simp at h
 ·right;right
  obtain⟨z,a,f,h1,h2,b⟩:=gB (show ps∈bc v.o1 v.o2 (fg r c) (k-v.c) from h);exact⟨.inl rfl,z,f,iV hr a,h1,h2,b⟩
 ·right;right
  obtain⟨z,a,f,h1,h2,b⟩:=gB (show ps∈bc v.o1 v.o2 (fF r c) (k-v.c) from h);exact⟨.inr rfl,z,f,iR hc a,h1,h2,b⟩
 ·right;left
  change ps∈[[(v.o1,(if v.t%2=1 then c else r),(if v.t%2=1 then r else c),k-v.c)]]at h;refine⟨_,by simpa using h,rfl,rfl,?_⟩
  by_cases e:v.t%2=1
  ·right;simp[e]
  ·left;simp[e]
theorem kr{q:Nat×RV}{r c:Nat}{ps:List TR}{p:TR}(h4:q.1<4)(hq:1<=q.2.c)(hr:1<=r)(hc:1<=c)(h:ps∈bT q r c k)(hp:p∈ps):Hv q r c k p:=by
 rcases dA h4 hr hc h with rfl | ⟨p',rfl,l,e2,j⟩ | ⟨g,z,f,sz,h1,h2,rfl⟩
 ·cases hp
 ·rw[Mz.mp hp]
  refine⟨⋯,.inr ⋯,?_,?_,?_,?_,.inl l⟩<;>rcases j with⟨a,b⟩ | ⟨a,b⟩<;>simp only[a,b]<;>omega
 ·have f1:=bR sz.a sz.b
  have f2:=bR sz.d sz.e;rcases(show p=_\/p=_ by simpa using hp) with rfl | rfl
  ·exact⟨by show f<k;omega,.inl (by show 1<=f;omega),sz.a,sz.b,sz.ma,sz.mb,.inl rfl⟩
  ·exact⟨by show k-q.2.c-f<k;omega,.inl (by show 1<=k-q.2.c-f;omega),sz.d,sz.e,sz.md,sz.me,.inr ⟨rfl,g⟩⟩
theorem u8{f g:TR->Nat}:∀{ps:List TR},(∀p∈ps,f p=g p)->aS f ps=aS g ps:=by
 intro ps h;unfold aS
 suffices this:∀m,ps.foldl (λm p=>m*f p) m=ps.foldl (λm p=>m*g p) m from this 1
 induction ps with
 |nil=>intro m;rfl
 |cons p ps ih=>
  intro m;rw[List.foldl_cons,List.foldl_cons,h p q0B];exact ih (λb a=>h b (MN _ a)) _
def dw(rs:Yaa):Prop:=∀q∈rs,q.1<4/\1<=q.2.c/\q.2.c<=9
theorem ij{z:Nu}{q:Nat×RV}(h:q∈cB z rs):q∈rs/\q.2.n=z:=by
 unfold cB at h;rw[List.mem_filter,q0W]at h;exact h
theorem Bm(hg:dw rs){f g:Nat}{p:TR}(h:∀p':TR,p'.2.2.2<p.2.2.2->cnt rs f p'=cnt rs g p'):cnt rs (f+1) p=cnt rs (g+1) p:=by
 unfold cnt
 split
 ·rfl
 ·rename_i hn
  congr 1
  refine q0H λq hq=>?_
  congr 1
  refine q0H λps hps=>u8 λp' hp'=>h p' ?_;obtain⟨h1,h2,_⟩:=hg q (ij hq).1;exact(kr h1 h2 ⋯ ⋯ hps hp').lt
theorem AS{f:Nat}{p:TR}(h:p.2.2.2<1):cnt rs f p=0:=by
 cases f with
 |zero=>rfl
 |succ f=>
  unfold cnt
  split
  ·rfl
  ·rename_i hn
   have:=bR (r:=p.2.1) (c:=p.2.2.1) ⋯ ⋯;omega
theorem xG(hg:dw rs):∀(f:Nat) (p:TR),p.2.2.2<(f:Int)+1->cnt rs (f+1) p=cnt rs f p
 |0,p,h=>by rw[AS (by simpa using h),AS (by simpa using h)]
 |f+1,p,h=>Bm hg λp' hp'=>xG hg f p' (by push_cast at h;omega)
abbrev CN(rs:Yaa)(p:TR):Nat:=cnt rs 17 p
theorem AW(hg:dw rs){p:TR}(hk:p.2.2.2<=16):CN rs p=if p.2.1=0\/p.2.2.1=0\/6<p.2.1\/6<p.2.2.1\/p.2.2.2<fw p.2.1 p.2.2.1 then 0 else
  ((cB p.1 rs).map λq=>((bT q p.2.1 p.2.2.1 p.2.2.2).map λps=>aS (CN rs) ps).sum).sum:=by
 have e:cnt rs 17 p=cnt rs 18 p:=(xG hg 17 p (by push_cast;omega)).symm;unfold CN;rw[e]
 rfl
theorem DR{p:TR}(h:p.2.2.2<fw p.2.1 p.2.2.1):CN rs p=0:=by
 unfold CN cnt;rw[q07 ⋯]
theorem pR{α β:Type}{g:β->Nat}{f:α->List β}:∀l:List α,((l.flatMap f).map g).sum=(l.map λx=>((f x).map g).sum).sum
 | []=>rfl
 |x::l=>by rw[List.flatMap_cons,MJ,List.sum_append,pR l,M4,List.sum_cons]
theorem jn{α:Type}(g:α->Nat)(b:Nat):∀(l:List α),(∀x∈l,g x<=b)->(l.map g).sum<=l.length*b
 | [],_=>by simp
 |x::l,h=>by
  have h1:=jn g b l λy hy=>h y (MN _ hy);have h2:=h x q0B;rw[M4,List.sum_cons,MI,Nat.add_mul];omega
theorem gX(r c:Nat):(fg r c).length=c-1:=by unfold fg;rw[My,q0G]
theorem gJ(r c:Nat):(fF r c).length=r-1:=by unfold fF;rw[My,q0G]
theorem gx{left:Int}(h15:left<=15):∀(szs:List ((Nat×Nat)×(Nat×Nat))),(∀z∈szs,vK r c z)->(bc o1 o2 szs left).length<=szs.length*15
 | [],_=>MU _
 |z::szs,h=>by
  have ih:=gx (o1:=o1) (o2:=o2) h15 szs λz' hz'=>h z' (MN _ hz');have f1:=bR (h z q0B).a (h z q0B).b;have f2:=bR (h z q0B).d (h z q0B).e;unfold bc at ih ⊢;rw[List.flatMap_cons,MT,MI,My];unfold ja at ih ⊢;rw[My,q0G];omega
def dH(p:TR):List dm:=[.inr (tx p.1),.inl (p.2.1:Int),.inl (p.2.2.1:Int),.inl p.2.2.2]
def ce(p:TR):List V:=[.str (tx p.1),.int (p.2.1:Int),.int (p.2.2.1:Int),.int p.2.2.2]
theorem iM(h:tx a=tx b):a=b:=by
 have e:(tx a).cps.toList=(tx b).cps.toList:=by rw[h]
 rwa [io,io]at e
theorem w6(h:dH p=dH q):p=q:=by
 obtain⟨a,b,c,d⟩:=p;obtain⟨a',j,g,d'⟩:=q;unfold dH at h;simp only[List.cons.injEq,Sum.inr.injEq,Sum.inl.injEq,and_true]at h;obtain⟨h1,h2,h3,e⟩:=h;rw[iM h1,show b=j by omega,show c=g by omega,e]
def sK(H:Hp)(l:Addr)(ps:List TR):Prop:=∃bs:List Addr,H l=some (.lst (bs.map V.ref))/\bs.length=ps.length/\∀(i:Nat) b p,bs[i]?=some b->ps[i]?=some p->H b=some (.tup (ce p))
def fV(H0 H:Hp)(l:Addr)(pss:List (List TR)):Prop:=∃as:List Addr,H l=some (.lst (as.map V.ref))/\as.length=pss.length/\∀(i:Nat) a ps,as[i]?=some a->pss[i]?=some ps->(H0 a=none/\a≠l)/\sK H a ps
theorem sK.up{ps:List TR}(h:sK H l ps)(s:aE H H'):sK H' l ps:=by
 obtain⟨bs,h1,h2,a⟩:=h;exact⟨bs,s _ _ h1,h2,λi b p e c=>s _ _ (a i b p e c)⟩
theorem fV.up{pss:List (List TR)}(h:fV H0 H l pss)(s:aE H H'):fV H0 H' l pss:=by
 obtain⟨g,h1,h2,b⟩:=h;exact⟨g,s _ _ h1,h2,λi a ps e c=>⟨(b i a ps e c).1,(b i a ps e c).2.up s⟩⟩
theorem sK.put{l:Addr}{ps:List TR}(h:sK H a ps)(hne:a≠l)(hl:∃xs,H l=some (.lst xs)):sK (aC H l o) a ps:=by
 obtain⟨bs,h1,h2,c⟩:=h;obtain⟨xs,hl⟩:=hl;exact⟨bs,by rw[aq hne];exact h1,h2,λi b p j g=>by
  have e:=c i b p j g;rw[aq (λz=>by rw[z,hl]at e;cases e)];exact e⟩
theorem fV.nil{H:Hp}(h:H l=some (.lst [])):fV H0 H l []:=⟨[],h,rfl,λi a ps e=>by simp at e⟩
theorem fV.app{pss:List (List TR)}{ps:List TR}(h:fV H0 H l pss)(hx:H l=some (.lst xs))(ha:sK H a ps)(hf:H0 a=none)(hne:a≠l):fV H0 (aC H l (.lst (xs++[V.ref a]))) l (pss++[ps]):=by
 obtain⟨j,h1,h2,n⟩:=h;rw[hx]at h1;cases h1;refine⟨j++[a],by rw[ad,MJ];rfl,by rw[MT,MT,h2];rfl,λi b k c e=>?_⟩
 by_cases m:i<j.length
 ·rw[MS m]at c
  rw[MS ⋯]at e;have:=n i b k c e;exact⟨this.1,this.2.put this.1.2 ⟨_,hx⟩⟩
 ·have g:i=j.length:=by
   have:=(Mw.mp c).1;simp at this;omega
  subst g;rw[MR (MU _),Nat.sub_self]at c;rw[h2,MR (MU _),Nat.sub_self]at e;cases c;cases e
  exact⟨⟨hf,hne⟩,ha.put hne ⟨_,hx⟩⟩
theorem fV.old{pss:List (List TR)}(h:fV H1 H l pss)(s:aE H0 H1):fV H0 H l pss:=by
 obtain⟨g,h1,h2,b⟩:=h;exact⟨g,h1,h2,λi a ps e c=>⟨⟨s.free (b i a ps e c).1.1,(b i a ps e c).1.2⟩,(b i a ps e c).2⟩⟩
def Gm(H:Hp)(as:Ny)(szs:List ((Nat×Nat)×(Nat×Nat))):Prop:=as.length=szs.length/\∀(i:Nat) a z,as[i]?=some a->szs[i]?=some z->∃x y,H a=some (.tup [.ref x,.ref y])/\H x=some (.tup [.int (z.1.1:Int),.int (z.1.2:Int)])/\H y=some (.tup [.int (z.2.1:Int),.int (z.2.2:Int)])
def K'(H:Hp)(l:Addr)(szs:List ((Nat×Nat)×(Nat×Nat))):Prop:=∃as:List Addr,H l=some (.lst (as.map V.ref))/\Gm H as szs
theorem Gm.up{szs:List ((Nat×Nat)×(Nat×Nat))}(h:Gm H as szs)(s:aE H H'):Gm H' as szs:=⟨h.1,λi a z e1 e2=>by
 obtain⟨x,y,h1,h2,h3⟩:=h.2 i a z e1 e2;exact⟨x,y,s _ _ h1,s _ _ h2,s _ _ h3⟩⟩
theorem Gm.snoc{szs:List ((Nat×Nat)×(Nat×Nat))}{z:(Nat×Nat)×(Nat×Nat)}(h:Gm H as szs)(h1:H a=some (.tup [.ref x,.ref y]))(h2:H x=some (.tup [.int (z.1.1:Int),.int (z.1.2:Int)]))(h3:H y=some (.tup [.int (z.2.1:Int),.int (z.2.2:Int)])):Gm H (as++[a]) (szs++[z]):=by
 refine⟨by rw[MT,MT,h.1];rfl,λi b w c e=>?_⟩
 by_cases j:i<as.length
 ·rw[MS j]at c
  rw[MS (by rw[<- h.1];exact j)]at e;exact h.2 i b w c e
 ·have g:i=as.length:=by
   have:=(Mw.mp c).1;simp at this;omega
  subst g;rw[MR (MU _),Nat.sub_self]at c;rw[h.1,MR (MU _),Nat.sub_self]at e;cases c;cases e
  exact⟨x,y,h1,h2,h3⟩
def ck(d1 d2:Addr)(H H':Hp):Prop:=∀x o,x≠d1->x≠d2->H x=some o->H' x=some o
theorem ck.of(s:aE H H'):ck d1 d2 H H':=λx o _ _ e=>s x o e
theorem ck.trans(a:ck d1 d2 H H1)(b:ck d1 d2 H1 H2):ck d1 d2 H H2:=λx o h1 h2 e=>b x o h1 h2 (a x o h1 h2 e)
theorem ck.put2:ck d1 d2 H (aC H d2 o):=λx u _ h2 e=>by rw[aq h2];exact e
def IX:HO->Prop | .dT _=>True | _=>False
def Kp(H H':Hp):Prop:=∀x o,¬ IX o->H x=some o->H' x=some o
theorem Kp.of(s:aE H H'):Kp H H':=λx o _ e=>s x o e
theorem Kp.trans(a:Kp H H1)(b:Kp H1 H2):Kp H H2:=λx o h e=>b x o h (a x o h e)
theorem Kp.put{H:Hp}{d:Addr}(hd:H d=some (.dT m)):Kp H (aC H d o):=λx u h e=>by
 rw[aq (λz=>by rw[z,hd]at e;cases e;exact h trivial)];exact e
theorem Kp.lst{H H':Hp}(s:Kp H H'){a:Addr}{xs:List V}(h:H a=some (.lst xs)):H' a=some (.lst xs):=s _ _ id h
theorem Kp.tup{H H':Hp}(s:Kp H H'){a:Addr}{xs:List V}(h:H a=some (.tup xs)):H' a=some (.tup xs):=s _ _ id h
theorem Kp.ins{H H':Hp}(s:Kp H H'){a C dx:Addr}{fs:List (Str×V)}(h:H a=some (.ins C dx fs)):H' a=some (.ins C dx fs):=s _ _ id h
theorem Kp.dK{H H':Hp}(s:Kp H H'){a:Addr}{fs:List (dm×V)}(h:H a=some (.dK fs)):H' a=some (.dK fs):=s _ _ id h
theorem sK.kp{ps:List TR}(h:sK H l ps)(s:Kp H H'):sK H' l ps:=by
 obtain⟨bs,h1,h2,a⟩:=h;exact⟨bs,s.lst h1,h2,λi b p e c=>s.tup (a i b p e c)⟩
theorem cR.kp(h:cR R H as rs)(s:Kp H H'):cR R H' as rs:=by
 refine⟨h.1,λi b r c a=>?_⟩;obtain⟨d,l,h1,h2⟩:=h.2 i b r c a;exact⟨d,l,s.ins h1,s.lst h2⟩
theorem eJ.kp{st:Nu}(g:eJ R H C dx a sg st as rs)(s:Kp H H'):eJ R H' C dx a sg st as rs:=by
 obtain⟨e,c,t,h1,h2,l,b,k⟩:=g;exact⟨e,c,t,s.ins h1,s.lst h2,l.kp s,⟨s.dK b.dict,λx j=>s.lst (b.list x j),b.apart⟩,k⟩
abbrev q_:Stmt:=h_ 32
inductive iP(K:W.Frag)(vs:List V)(H:Hp)(Q:VK)(_E:XK):Prop
 |mk (a:Addr) (r c:Nat) (_:vs=[.ref a]) (_:aV K H a [.int (r:Int),.int (c:Int)]) (_:r<=100) (_:c<=100) (_:Q (.int (fw r c)) H)
theorem Ct:az ["size"] ["size"] (am q_):=by walk_at "c"
theorem Bk{f:Addr}(F:cE K "fewest" "fewest" q_ f fd):↑aY 1 f fd ["size"] (iP K):=by
 have sc:=Ct;walk_at "f"
 ·obtain⟨a,r,c,rfl,b,hr3,hc3,q⟩:=h
  refine⟨_,(aj (aG (aA (br.m0 fk) (aA (br.m1 fK) (aA (br.m1 fK) ai (au ar (al 0) ai (λ_ _=>rfl))) (au ar (al 0) ai (λ_ _=>rfl))) ai))),?_⟩;ext;exact⟨_,b,_,rfl,_,rfl,_,b,_,rfl,_,rfl,.inl ⟨⋯,⋯⟩,q⟩
theorem lh{H:Hp}{Q:VK}(ha:H a=some (.tup xs))(hb:H b=some (.tup ys))(hx:xs≠[])(hy:ys≠[])(hz:xs.length+ys.length<=1000)(q:∀p,H p=none->Q (.ref p) (aC H p (.tup (xs++ys)))):Eo K (.ref a) (.ref b) H Q:=
 ⟨a,b,xs,ys,rfl,rfl,aV.of ha,aV.of hb,hx,ao ⋯,λe=>q0N e hy,λ_=>q⟩
abbrev iI:Stmt:=h_ 33
inductive gM(K:W.Frag)(vs:List V)(H:Hp)(Q:VK)(_E:XK):Prop
 |mk (a C dx lp l:Addr) (n o1 o2:Nu) (c left:Int) (szs:List ((Nat×Nat)×(Nat×Nat))) (rr cc:Nat) (_:vs=[.ref a,.ref l,.int left]) (_:H a=some (.ins C dx (EM n c lp o1 o2))) (_:m8 K C) (_:av K C "one") (_:av K C "other") (_:K' H l szs) (_:szs.length<=10) (_:(∀z∈szs,vK rr cc z)) (_:rr<=6) (_:cc<=6) (_:left<=15) (_:-100<=left) (_:∀l' H',H l'=none->fV H H' l' (bc o1 o2 szs left)->aE H H'->Q (.ref l') H')
theorem sv:az ["rule","sizes","left","found","one","other","first"] ["rule","sizes","left"] (am iI):=by walk_at "c"
theorem fV.len{pss:List (List TR)}(h:fV H0 H l pss)(hx:H l=some (.lst xs)):xs.length=pss.length:=by
 obtain⟨as,h1,h2,_⟩:=h;rw[hx]at h1;cases h1;rw[My,h2]
theorem tz{left:Int}{szs:List ((Nat×Nat)×(Nat×Nat))}{i:Nat}{z:(Nat×Nat)×(Nat×Nat)}(h:szs[i]?=some z):bc o1 o2 (szs.take (i+1)) left=bc o1 o2 (szs.take i) left++(ja (fw z.1.1 z.1.2) (left-fw z.2.1 z.2.2+1)).map λf=>[(o1,z.1.1,z.1.2,f),(o2,z.2.1,z.2.2,left-f)]:=by
 unfold bc;rw[q0D,h,List.flatMap_append];simp
theorem rS{f:Addr}(F:cE K "paired_rows" "paired_rows" iI f fd)(nb:NB mg)(yak:↑cW 1 "fewest" ["size"] (iP K)):↑aY 2 f fd ["rule","sizes","left"] (gM K):=by
 have sc:=sv;walk_at "f"
 ·obtain⟨a,C,dx,lp,l,n,o1,o2,c,left,u,rr,cc,rfl,ha,cl,n1,n2,⟨as,hl,c6,c4⟩,hsz,a8,rr6,cc6,a9,hlm,q⟩:=h
  refine⟨_,(af (q01 3 sc.nd (bz ac))
   (af (bL PassesOwn.never rfl (cG (al 1)) (gb (n:=2) rfl (aU (q02 4 sc.nd) (aU (q02 5 sc.nd) cY)))
   (aj (bL PassesOwn.never rfl (lz rfl nb.range (aa (aF yak (hr.mono nofun) rfl aR (aa (al 4) ac)) (aa (aA (br.m0 bP) (aA (br.m0 fk) (al 2) (aF yak (hr.mono nofun) rfl aR (aa (al 5) ac))) ai) ac))) (q02 6 sc.nd)
   (aj (bF (q03 (al 3) (aa (bz (aa (aA d_ (aA d_ (aQ (aa (bN (al 0) rfl) ac)) (al 4)) (aQ (aa (al 6) ac))) (aa (aA d_ (aA d_ (aQ (aa (bN (al 0) rfl) ac)) (al 5)) (aQ (aa (aA (br.m0 fk) (al 2) (al 6)) ac))) ac))) ac)))))))
   (aj (aG (al 3))))),?_⟩
  symm;refine⟨ao nofun,λI a0=>h1 _ _ ?_⟩;clear h1;have s1:=ae (o:=.lst []) a0;have e1:aC H I (.lst []) I=some (.lst []):=ad;generalize aC H I (.lst [])=H1 at s1 e1 ⊢;symm;refine⟨⟨_,aT.of (s1 _ _ hl)⟩,?_⟩;refine dh (xs:=as.map V.ref) (λi σ R=>aE H R/\i<=as.length/\fV H R I (bc o1 o2 (u.take i) left)/\∃x y z,σ=[some (V.ref a),some (V.ref l),some (V.int left),some (V.ref I),x,y,z]) ⟨s1,MV _,fV.nil e1,_,_,_,rfl⟩ (λi σ R _ h=>aT.of (h.1 _ _ hl)) ?_ ?_
  ·rintro i x σ R hx ⟨sm,hi,hT,U,y1,z1,rfl⟩
   have Z:i<as.length:=by have:=(Mw.mp hx).1;rwa [My]at this
   rw[MA,Mv Z]at hx;cases hx;have a3:u[i]?=some (u[i]'⋯):=Mv ⋯;have m:=a8 _ (MF (show i<u.length by omega));have Y:=tz (o1:=o1) (o2:=o2) (left:=left) a3;obtain⟨a2,a1,ht,M,L⟩:=c4 i as[i] _ (Mv Z) a3;generalize u[i]'⋯=z at m Y M L;obtain⟨⟨g,k⟩,B,D⟩:=z;have ma:=m.ma;have mb:=m.mb;have md:=m.md;have me:=m.me;have f1:=bR m.a m.b;have f2:=bR m.d m.e;simp only at ma mb md me Y M L f1 f2;have g1:fw g k<=1000:=by
    rw[iL];have:g*k<=6*6:=Nat.mul_le_mul ⋯ ⋯;omega
   have g2:fw B D<=1000:=by
    rw[iL];have:B*D<=6*6:=Nat.mul_le_mul ⋯ ⋯;omega
   ext;refine⟨_,aV.of (sm _ _ ht),rfl,_,_,rfl,_,_,rfl,rfl,a2,g,k,rfl,aV.of (sm _ _ M),⋯,⋯,a1,B,D,rfl,aV.of (sm _ _ L),⋯,⋯,_,rfl,_,rfl,⋯,⋯,⋯,⋯,?_⟩;refine hJ (λj σ R=>aE H R/\fV H R I (bc o1 o2 (u.take i) left++((List.range j).map fun(j:Nat)=>fw g k+(j:Int)).map λf=>[(o1,g,k,f),(o2,B,D,left-f)])/\∃z,σ=[some (V.ref a),some (V.ref l),some (V.int left),some (V.ref I),some (V.ref a2),some (V.ref a1),z]) ⟨sm,by simpa using hT,_,rfl⟩ ?_ ?_
   ·rintro j σ H2 hj ⟨v,G,z,rfl⟩
    ext;obtain⟨xs,J⟩:∃xs,H2 I=some (.lst xs):=let ⟨as2,h,_⟩:=G;⟨_,h⟩
    have b0:=G.len J;refine⟨.inl ⟨rfl,_,aT.of J⟩,C,dx,_,v _ _ ha,cl,n1,_,rfl,ao nofun,λp1 c3=>?_⟩;have t1:=ae (o:=.tup [V.str (tx o1)]) c3;refine lh ad (t1 _ _ (v _ _ M)) (by simp) (by simp) (by simp) λp2 c0=>⟨ao nofun,λp3 a7=>?_⟩;have t2:=t1.trans (ae (o:=.tup ([V.str (tx o1)]++[V.int (g:Int),V.int (k:Int)])) c0);have e2:aC (aC H2 p1 (.tup [V.str (tx o1)])) p2 (.tup ([V.str (tx o1)]++[V.int (g:Int),V.int (k:Int)])) p2=some (.tup [V.str (tx o1),V.int (g:Int),V.int (k:Int)]):=ad;generalize aC (aC H2 p1 (.tup [V.str (tx o1)])) p2 (.tup ([V.str (tx o1)]++[V.int (g:Int),V.int (k:Int)]))=A2 at t2 e2 a7 ⊢;have t3:=ae (o:=.tup [V.int (fw g k+(j:Int))]) a7;refine lh (t3 _ _ e2) ad (by simp) (by simp) (by simp) λT b4=>?_;have t4:=(t2.trans t3).trans (ae (o:=.tup ([V.str (tx o1),V.int (g:Int),V.int (k:Int)]++[V.int (fw g k+(j:Int))])) b4);have e4:aC (aC A2 p3 (.tup [V.int (fw g k+(j:Int))])) T (.tup ([V.str (tx o1),V.int (g:Int),V.int (k:Int)]++[V.int (fw g k+(j:Int))])) T=some (.tup (ce (o1,g,k,fw g k+(j:Int)))):=ad;generalize aC (aC A2 p3 (.tup [V.int (fw g k+(j:Int))])) T (.tup ([V.str (tx o1),V.int (g:Int),V.int (k:Int)]++[V.int (fw g k+(j:Int))]))=A4 at t4 e4 ⊢;have s4:=v.trans t4;refine⟨C,dx,_,s4 _ _ ha,cl,n2,_,rfl,ao nofun,λp5 b3=>?_⟩;have t5:=ae (o:=.tup [V.str (tx o2)]) b3;refine lh ad (t5 _ _ (s4 _ _ L)) (by simp) (by simp) (by simp) λp6 b2=>⟨ao nofun,λp7 a6=>?_⟩;have t6:=t5.trans (ae (o:=.tup ([V.str (tx o2)]++[V.int (B:Int),V.int (D:Int)])) b2);have e6:aC (aC A4 p5 (.tup [V.str (tx o2)])) p6 (.tup ([V.str (tx o2)]++[V.int (B:Int),V.int (D:Int)])) p6=some (.tup [V.str (tx o2),V.int (B:Int),V.int (D:Int)]):=ad;generalize aC (aC A4 p5 (.tup [V.str (tx o2)])) p6 (.tup ([V.str (tx o2)]++[V.int (B:Int),V.int (D:Int)]))=A6 at t6 e6 a6 ⊢;have t7:=ae (o:=.tup [V.int (left-(fw g k+(j:Int)))]) a6;refine lh (t7 _ _ e6) ad (by simp) (by simp) (by simp) λS b1=>?_;have t8:=(t6.trans t7).trans (ae (o:=.tup ([V.str (tx o2),V.int (B:Int),V.int (D:Int)]++[V.int (left-(fw g k+(j:Int)))])) b1);have e8:aC (aC A6 p7 (.tup [V.int (left-(fw g k+(j:Int)))])) S (.tup ([V.str (tx o2),V.int (B:Int),V.int (D:Int)]++[V.int (left-(fw g k+(j:Int)))])) S=some (.tup (ce (o2,B,D,left-(fw g k+(j:Int))))):=ad;generalize aC (aC A6 p7 (.tup [V.int (left-(fw g k+(j:Int)))])) S (.tup ([V.str (tx o2),V.int (B:Int),V.int (D:Int)]++[V.int (left-(fw g k+(j:Int)))]))=A8 at t8 e8 ⊢;refine⟨ao nofun,λp9 O=>?_⟩;have t9:=ae (o:=.lst [V.ref T,V.ref S]) O;have e9:aC A8 p9 (.lst [V.ref T,V.ref S]) p9=some (.lst [V.ref T,V.ref S]):=ad;have n9:p9≠I:=λe=>by rw[e,t8 _ _ (t4 _ _ J)]at O;cases O
    generalize aC A8 p9 (.lst [V.ref T,V.ref S])=A9 at t9 e9 ⊢;have s9:=(t4.trans t8).trans t9;have a4:=s9 _ _ J;have a5:sK A9 p9 [(o1,g,k,fw g k+(j:Int)),(o2,B,D,left-(fw g k+(j:Int)))]:=⟨[T,S],e9,rfl,λi b p U x2=>by
     match i,U,x2 with
     |0,U,x2=>cases U;cases x2;exact(t8.trans t9) _ _ e4
     |1,U,x2=>cases U;cases x2;exact t9 _ _ e8⟩
    have hlen:(bc o1 o2 (u.take i) left).length<=150:=M5 (gx (r:=rr) (c:=cc) a9 _ λz hz=>a8 z (q0F hz)) (by rw[Na];omega);refine⟨_,a4,?_,?_⟩
    ·rw[b0,MT,My,My,q0G];exact bf ⋯
    ·refine⟨dP (v.trans s9) a0,?_⟩
     rw[q0J,MJ,MJ,<- M9];exact(G.up s9).app a4 a5 (v.free (t4.free (t8.free O))) n9
   ·rintro σ H2 ⟨v,G,z,rfl⟩
    refine⟨v,Z,?_,_,_,_,rfl⟩;rw[Y];exact G
  ·rintro σ R ⟨sm,_,hT,U,y1,z1,rfl⟩
   refine h1 _ _ ?_;ext;rw[My,c6,M']at hT;exact q I R a0 hT sm
inductive eD(C:Addr)(t:Nat)(vs:List V)(H:Hp)(Q:VK)(_E:XK):Prop
 |mk (a dx lp:Addr) (v:RV) (r c:Nat) (k:Int) (_:vs=[.ref a,.int (r:Int),.int (c:Int),.int k]) (_:H a=some (.ins C dx (xU t lp v))) (_:1<=r) (_:r<=6) (_:1<=c) (_:c<=6) (_:k<=16) (_:1<=k) (_:1<=v.c) (_:v.c<=9) (_:0<=v.t) (_:∀l H',H l=none->fV H H' l (bT (t,v) r c k)->aE H H'->Q (.ref l) H')
abbrev eX:Stmt:=fG 28 5
theorem wa:az ["self","rows","columns","cost"] ["self","rows","columns","cost"] (am eX):=by walk_at "c"
theorem sK.nil{H:Hp}(h:H l=some (.lst [])):sK H l []:=⟨[],h,rfl,λi a ps e=>by simp at e⟩
theorem fV.one{H0 H:Hp}{ps:List TR}(h:H l=some (.lst [.ref a]))(ha:sK H a ps)(hf:H0 a=none)(hne:a≠l):fV H0 H l [ps]:=⟨[a],h,rfl,λi b qs e1 e2=>by
 match i,e1,e2 with
 |0,e1,e2=>cases e1;cases e2;exact⟨⟨hf,hne⟩,ha⟩⟩
theorem II{a b c d e f:Int}:kE [V.int a,V.int b,V.int c] [V.int d,V.int e,V.int f]=decide (a=d/\b=e/\c=f):=by
 have j:kE [V.int a,V.int b,V.int c] [V.int d,V.int e,V.int f]=(((a==d)&&((b==e)&&((c==f)&&true)))&&true):=rfl;rw[j]
 by_cases h1:a=d<;>by_cases h2:b=e<;>by_cases g:c=f<;>simp[h1,h2,g]
theorem wJ{f:Addr}(F:cE K "part_rows" "CellRule.part_rows" eX f fd)(nb:NB mg)(cl:m8 K C)(na:av K C "cost"):↑aY 1 f fd ["self","rows","columns","cost"] (eD C 0):=by
 have sc:=wa;walk_at "f"
 ·obtain⟨a,L,lp,v,r,c,k,rfl,J,r1,r6,c1,c6,k16,k1,vc,vc9,vt,q⟩:=h
  have I:=hr.units;refine⟨_,(aj (aG (sH (aH (DO I) (aQ (aa (al 1) (aa (al 2) (aa (al 3) ac)))) (aQ (aI (aI (aa (bN (al 0) rfl) ac)))) (aL _)) (bz (aa (bz ac) ac)) (bz ac)))),?_⟩;ext;refine⟨ao nofun,λp B=>⟨C,L,_,ae B _ _ J,cl,na,_,rfl,ao nofun,λG l=>⟨_,aV.of (ae l _ _ ad),_,aV.of ad,rfl,rfl,?_⟩⟩⟩;have j:=(ae (o:=.tup [V.int (r:Int),V.int (c:Int),V.int k]) B).trans (ae (o:=.tup [V.int 1,V.int 1,V.int v.c]) l);generalize aC (aC H p (.tup [V.int (r:Int),V.int (c:Int),V.int k])) G (.tup [V.int 1,V.int 1,V.int v.c])=H2 at j ⊢;rw[II];have n:bT (0,v) r c k=if r=1/\c=1/\k=v.c then[[]] else[]:=rfl
  rw[n]at q
  by_cases D:r=1/\c=1/\k=v.c
  ·rw[q07 (by simp;omega)]
   rw[q07 D]at q;refine⟨MV _,λm b=>⟨ao nofun,λy g=>?_⟩⟩;have x:=ae (o:=.lst []) b;have u:=ae (o:=.lst [V.ref m]) g;have ne:m≠y:=λe=>by rw[<- e,ad]at g;cases g
   exact q y _ (j.free (x.free g)) (fV.one ad (sK.nil (u _ _ ad)) (j.free b) ne) ((j.trans x).trans u)
  ·rw[q06 (by simp;omega)]
   rw[q06 D]at q;exact⟨MV _,λm b=>q m _ (j.free b) (fV.nil ad) (j.trans (ae b))⟩
abbrev df:Stmt:=fG 29 5
theorem su:az ["self","rows","columns","cost","sizes"] ["self","rows","columns","cost"] (am df):=by walk_at "c"
theorem CI{c i:Nat}(h:i<c-1):(fg r c)[i]?=some ((r,1+i),(r,c-(1+i))):=by
 unfold fg;rw[MA,List.getElem?_range h];rfl
theorem sf{f:Addr}(F:cE K "part_rows" "BesideRule.part_rows" df f fd)(nb:NB mg)(cl:m8 K C)(na:av K C "cost"/\av K C "one"/\av K C "other")(yaC:↑cW 2 "paired_rows" ["rule","sizes","left"] (gM K)):↑aY 3 f fd ["self","rows","columns","cost"] (eD C 1):=by
 have sc:=su;walk_at "f"
 ·obtain⟨a,U,lp,v,r,c,k,rfl,S,r1,r6,c1,c6,k16,k1,vc,vc9,vt,q⟩:=h
  have hu:=hr.units;refine⟨_,(af (jA (i:=4) ["at"] [1,2] sc.nd rfl (Or.inl rfl) rfl  rfl (bB.of (by kernel_rfl)) (by kernel_rfl) (lz rfl nb.range (aI (aa (al 2) ac)))
    (λ_ _ _ _=>(aD (i:=0) (by show(["at","rows","columns"]:List Str).Nodup;decide +kernel) rfl (Or.inl rfl))) (λ_ _ _ _=>bK) (λ_ _ _ _=>(aQ (aa (aQ (aa (al 1) (aa (al 0) ac))) (aa (aQ (aa (al 1) (aa (aA (br.m0 fk) (al 2) (al 0)) ac))) ac)))))
   (aj (aG (aF yaC (hr.mono nofun) rfl aR (aa (al 0) (aa (al 4) (aa (aA (br.m0 fk) (al 3) (bN (al 0) rfl)) ac))))))),?_⟩
  symm;refine⟨⋯,⋯,⋯,?_⟩;have en:((c:Int)-1).toNat=c-1:=by omega
  rw[en];refine dE (λi j σ m=>aE H m/\i<=c-1/\(∃g:List Addr,j=g.map V.ref/\Gm m g ((fg r c).take i))/\∃z,σ=[z,some (V.int (r:Int)),some (V.int (c:Int))]) ⟨λ_ _ e=>e,MV _,⟨[],rfl,rfl,λi a z e=>by simp at e⟩,_,rfl⟩ ?_ (λi j σ m h=>h.2.1) ?_ ?_
  ·rintro i j σ m ⟨_,L,⟨g,rfl,p⟩,_⟩
   rw[My,p.1,Na];exact bf ⋯
  ·rintro i j σ m L ⟨sm,_,⟨g,rfl,p⟩,z,rfl⟩
   ext;refine⟨ao nofun,λR I=>⟨ao nofun,λO G=>⟨ao nofun,λp3 D=>?_⟩⟩⟩;have Z:=ae (o:=.tup [V.int (r:Int),V.int (1+(i:Int))]) I;have M:=ae (o:=.tup [V.int (r:Int),V.int ((c:Int)-(1+(i:Int)))]) G;have u:=ae (o:=.tup [V.ref R,V.ref O]) D;have t:=(Z.trans M).trans u;refine⟨sm.trans t,L,g++[p3],by rw[MJ];rfl,?_⟩;rw[q0D,CI L];exact(p.up t).snoc (x:=R) (y:=O) ad ((M.trans u) _ _ (by rw[ad];rw[show(1+(i:Int))=((1+i:Nat):Int) by push_cast;rfl])) (u _ _ (by rw[ad];rw[show((c:Int)-(1+(i:Int)))=((c-(1+i):Nat):Int) by omega]))
  rintro j σ Y ⟨s1,_,⟨g,rfl,p⟩,z,rfl⟩ l hl;refine h1 _ _ ?_;clear h1;have B:=ae (o:=.lst (g.map V.ref)) hl;have T:aC Y l (.lst (g.map V.ref)) l=some (.lst (g.map V.ref)):=ad;generalize aC Y l (.lst (g.map V.ref))=H2 at B T ⊢;have b:=s1.trans B;rw[q0E (by rw[gX];omega)]at p;ext;refine⟨C,U,_,b _ _ S,cl,na.1,_,rfl,_,rfl,a,C,U,lp,l,v.n,v.o1,v.o2,v.c,k-v.c,fg r c,r,c,rfl,b _ _ S,cl,na.2.1,na.2.2,⟨g,T,p.up B⟩,by rw[gX];omega,λz hz=>iV r1 hz,r6,c6,⋯,⋯,λl' m J hT s3=>q l' m (b.free J) (hT.old b) (b.trans s3)⟩
abbrev dN:Stmt:=fG 30 5
theorem tN:az ["self","rows","columns","cost","sizes"] ["self","rows","columns","cost"] (am dN):=by walk_at "c"
theorem BU{r i:Nat}(h:i<r-1):(fF r c)[i]?=some ((1+i,c),(r-(1+i),c)):=by
 unfold fF;rw[MA,List.getElem?_range h];rfl
theorem tQ{f:Addr}(F:cE K "part_rows" "AboveRule.part_rows" dN f fd)(nb:NB mg)(cl:m8 K C)(na:av K C "cost"/\av K C "one"/\av K C "other")(yaC:↑cW 2 "paired_rows" ["rule","sizes","left"] (gM K)):↑aY 3 f fd ["self","rows","columns","cost"] (eD C 2):=by
 have sc:=tN;walk_at "f"
 ·obtain⟨a,U,lp,v,r,c,k,rfl,S,r1,r6,c1,c6,k16,k1,vc,vc9,vt,q⟩:=h
  have hu:=hr.units;refine⟨_,(af (jA (i:=4) ["at"] [2,1] sc.nd rfl (Or.inl rfl) rfl  rfl (bB.of (by kernel_rfl)) (by kernel_rfl) (lz rfl nb.range (aI (aa (al 1) ac)))
    (λ_ _ _ _=>(aD (i:=0) (by show(["at","columns","rows"]:List Str).Nodup;decide +kernel) rfl (Or.inl rfl))) (λ_ _ _ _=>bK) (λ_ _ _ _=>(aQ (aa (aQ (aa (al 0) (aa (al 1) ac))) (aa (aQ (aa (aA (br.m0 fk) (al 2) (al 0)) (aa (al 1) ac))) ac)))))
   (aj (aG (aF yaC (hr.mono nofun) rfl aR (aa (al 0) (aa (al 4) (aa (aA (br.m0 fk) (al 3) (bN (al 0) rfl)) ac))))))),?_⟩
  symm;refine⟨⋯,⋯,⋯,?_⟩;have en:((r:Int)-1).toNat=r-1:=by omega
  rw[en];refine dE (λi j σ m=>aE H m/\i<=r-1/\(∃g:List Addr,j=g.map V.ref/\Gm m g ((fF r c).take i))/\∃z,σ=[z,some (V.int (c:Int)),some (V.int (r:Int))]) ⟨λ_ _ e=>e,MV _,⟨[],rfl,rfl,λi a z e=>by simp at e⟩,_,rfl⟩ ?_ (λi j σ m h=>h.2.1) ?_ ?_
  ·rintro i j σ m ⟨_,L,⟨g,rfl,p⟩,_⟩
   rw[My,p.1,Na];exact bf ⋯
  ·rintro i j σ m L ⟨sm,_,⟨g,rfl,p⟩,z,rfl⟩
   ext;refine⟨ao nofun,λR I=>⟨ao nofun,λO G=>⟨ao nofun,λp3 D=>?_⟩⟩⟩;have Z:=ae (o:=.tup [V.int (1+(i:Int)),V.int (c:Int)]) I;have M:=ae (o:=.tup [V.int ((r:Int)-(1+(i:Int))),V.int (c:Int)]) G;have u:=ae (o:=.tup [V.ref R,V.ref O]) D;have t:=(Z.trans M).trans u;refine⟨sm.trans t,L,g++[p3],by rw[MJ];rfl,?_⟩;rw[q0D,BU L];exact(p.up t).snoc (x:=R) (y:=O) ad ((M.trans u) _ _ (by rw[ad];rw[show(1+(i:Int))=((1+i:Nat):Int) by push_cast;rfl])) (u _ _ (by rw[ad];rw[show((r:Int)-(1+(i:Int)))=((r-(1+i):Nat):Int) by omega]))
  rintro j σ Y ⟨s1,_,⟨g,rfl,p⟩,z,rfl⟩ l hl;refine h1 _ _ ?_;clear h1;have B:=ae (o:=.lst (g.map V.ref)) hl;have T:aC Y l (.lst (g.map V.ref)) l=some (.lst (g.map V.ref)):=ad;generalize aC Y l (.lst (g.map V.ref))=H2 at B T ⊢;have b:=s1.trans B;rw[q0E (by rw[gJ];omega)]at p;ext;refine⟨C,U,_,b _ _ S,cl,na.1,_,rfl,_,rfl,a,C,U,lp,l,v.n,v.o1,v.o2,v.c,k-v.c,fF r c,r,c,rfl,b _ _ S,cl,na.2.1,na.2.2,⟨g,T,p.up B⟩,by rw[gJ];omega,λz hz=>iR c1 hz,r6,c6,⋯,⋯,λl' m J hT s3=>q l' m (b.free J) (hT.old b) (b.trans s3)⟩
abbrev eO:Stmt:=fG 31 5
theorem wn:az ["self","rows","columns","cost","size"] ["self","rows","columns","cost"] (am eO):=by walk_at "c"
theorem wm{f:Addr}(F:cE K "part_rows" "TurnRule.part_rows" eO f fd)(nb:NB mg)(cl:m8 K C)(na:av K C "cost"/\av K C "part"/\av K C "turning"):↑aY 1 f fd ["self","rows","columns","cost"] (eD C 3):=by
 have sc:=wn;walk_at "f"
 ·obtain⟨a,dx,lp,v,r,c,k,rfl,Z,r1,r6,c1,c6,k16,k1,vc,vc9,vt,q⟩:=h
  have hu:=hr.units;refine⟨_,(af (q01 4 sc.nd (sH (aH c7 (aA (br.m1 bO) (bN (al 0) rfl) ai) ai (aL _)) (aQ (aa (al 2) (aa (al 1) ac))) (aQ (aa (al 1) (aa (al 2) ac)))))
   (aj (aG (bz (aa (bz (aa (aA d_ (aA d_ (aQ (aa (bN (al 0) rfl) ac)) (al 4)) (aQ (aa (aA (br.m0 fk) (al 3) (bN (al 0) rfl)) ac))) ac)) ac))))),?_⟩
  symm;have m:∀(x y:Nat) (p:Addr) (j:Hp),(∃p:TR,bT (3,v) r c k=[[p]]/\p=(v.o1,x,y,k-v.c))->aE H j->j p=some (.tup [V.int (x:Int),V.int (y:Int)])->N1 [some (V.ref a),some (V.int (r:Int)),some (V.int (c:Int)),some (V.int k),some (V.ref p)] j:=by
   rintro x y p j ⟨_,ep,rfl⟩ M e1;refine h1 _ _ ?_;ext;refine⟨C,dx,_,M _ _ Z,cl,na.2.1,_,rfl,ao nofun,λp1 U=>?_⟩;have t1:=ae (o:=.tup [V.str (tx v.o1)]) U;refine lh ad (t1 _ _ e1) (by simp) (by simp) (by simp) λO T=>?_;have J:=t1.trans (ae (o:=.tup ([V.str (tx v.o1)]++[V.int (x:Int),V.int (y:Int)])) T);have e2:aC (aC j p1 (.tup [V.str (tx v.o1)])) O (.tup ([V.str (tx v.o1)]++[V.int (x:Int),V.int (y:Int)])) O=some (.tup [V.str (tx v.o1),V.int (x:Int),V.int (y:Int)]):=ad;generalize aC (aC j p1 (.tup [V.str (tx v.o1)])) O (.tup ([V.str (tx v.o1)]++[V.int (x:Int),V.int (y:Int)]))=A2 at J e2 ⊢;refine⟨C,dx,_,(M.trans J) _ _ Z,cl,na.1,_,rfl,_,rfl,ao nofun,λp3 S=>?_⟩;have t3:=ae (o:=.tup [V.int (k-v.c)]) S;refine lh (t3 _ _ e2) ad (by simp) (by simp) (by simp) λl R=>?_;have t4:=(J.trans t3).trans (ae (o:=.tup ([V.str (tx v.o1),V.int (x:Int),V.int (y:Int)]++[V.int (k-v.c)])) R);have e4:aC (aC A2 p3 (.tup [V.int (k-v.c)])) l (.tup ([V.str (tx v.o1),V.int (x:Int),V.int (y:Int)]++[V.int (k-v.c)])) l=some (.tup (ce (v.o1,x,y,k-v.c))):=ad;generalize aC (aC A2 p3 (.tup [V.int (k-v.c)])) l (.tup ([V.str (tx v.o1),V.int (x:Int),V.int (y:Int)]++[V.int (k-v.c)]))=A4 at t4 e4 ⊢;refine⟨ao nofun,λp5 n=>⟨ao nofun,λp6 g=>?_⟩⟩;have I:=ae (o:=.lst [V.ref l]) n;have G:=ae (o:=.lst [V.ref p5]) g;have ne:p5≠p6:=λe=>by rw[<- e,ad]at g;cases g
   have L:=M.trans t4;rw[ep]at q;refine q p6 _ (L.free (I.free g)) (fV.one ad ⟨[l],G _ _ ad,rfl,λi b z D B=>?_⟩ (L.free n) ne) ((L.trans I).trans G)
   match i,D,B with
   |0,D,B=>cases D;cases B;exact(I.trans G) _ _ e4
  refine⟨C,dx,_,Z,cl,na.2.2,_,rfl,_,rfl,?_⟩
  by_cases u:v.t%2=1
  ·rw[q07 u]
   exact⟨ao nofun,λp Y=>m c r p _ ⟨_,rfl,by simp[u]⟩ (ae Y) ad⟩
  ·rw[q06 u]
   exact⟨ao nofun,λp Y=>m r c p _ ⟨_,rfl,by simp[u]⟩ (ae Y) ad⟩
def mi(R:RC):List (Addr×Sp):=[(R.cc,eD R.cc 0),(R.cb,eD R.cb 1),(R.ca,eD R.ca 2),(R.ct,eD R.ct 3)]
theorem Fw{R:RC}{t a}{v:RV}{r c:Nat}{k:Int}{Q:VK}{E:XK}(h4:t<4)(ra:i_ R H t a v)(r1:1<=r)(r6:r<=6)(c1:1<=c)(c6:c<=6)(k16:k<=16)(k1:1<=k)(vc:1<=v.c)(vc9:v.c<=9)(vt:0<=v.t)(q:∀l H',H l=none->fV H H' l (bT (t,v) r c k)->aE H H'->Q (.ref l) H') :
  ∃o∈mi R,∃dx fs,H a=some (.ins o.1 dx fs)/\fs.lookup ("part_rows":Str)=none/\o.2 [.ref a,.int (r:Int),.int (c:Int),.int k] H Q E:=by
 obtain⟨dx,l,h1,_⟩:=ra;have:t=0\/t=1\/t=2\/t=3:=by omega
 rcases this with rfl | rfl | rfl | rfl
 ·exact⟨(R.cc,eD R.cc 0),by simp[mi],dx,_,h1,rfl,a,dx,l,v,r,c,k,rfl,h1,r1,r6,c1,c6,k16,k1,vc,vc9,vt,q⟩
 ·exact⟨(R.cb,eD R.cb 1),by simp[mi],dx,_,h1,rfl,a,dx,l,v,r,c,k,rfl,h1,r1,r6,c1,c6,k16,k1,vc,vc9,vt,q⟩
 ·exact⟨(R.ca,eD R.ca 2),by simp[mi],dx,_,h1,rfl,a,dx,l,v,r,c,k,rfl,h1,r1,r6,c1,c6,k16,k1,vc,vc9,vt,q⟩
 ·exact⟨(R.ct,eD R.ct 3),by simp[mi],dx,_,h1,rfl,a,dx,l,v,r,c,k,rfl,h1,r1,r6,c1,c6,k16,k1,vc,vc9,vt,q⟩
inductive Gr(rs:Yaa):Dt->List Nat->bH->Int->Nat->Prop
 |cell {n:Nat} {v:RV}:rs[n]?=some (0,v)->Gr rs (.tup [.int (n:Int)]) v.n [v.sg] v.c 1
 |turn {n:Nat} {v:RV} {d:Dt} {p:bH} {c:Int} {k:Nat}:rs[n]?=some (3,v)->Gr rs d v.o1 p c k->Gr rs (.tup [.int (n:Int),d]) v.n (turned p v.t.toNat) (v.c+c) (k+1)
 |pair {n kd:Nat} {v:RV} {d1 d2:Dt} {p1 p2 p:bH} {c1 c2:Int} {k1 k2:Nat}:(kd=1\/kd=2)->rs[n]?=some (kd,v)->Gr rs d1 v.o1 p1 c1 k1->Gr rs d2 v.o2 p2 c2 k2->fj kd v [p1,p2]=some p->Gr rs (.tup [.int (n:Int),d1,d2]) v.n p (v.c+(c1+c2)) (max k1 k2+1)
theorem xc{k:Nat}{p:bH}{r c:Nat}(hk:k=1\/k=2)(h1:fA p1 r c)(h2:fA p2 r' c')(m:fj k v [p1,p2]=some p):∃r c,fA p r c:=by
 have l:=bD h1.rc h1.r0;have j:=bD h2.rc h2.r0;have e:=h1.rc.1;have b:=h2.rc.1;rcases hk with rfl | rfl
 ·have a:(if p1.length=p2.length/\(p1.headD []).length+(p2.headD []).length<=6 then some (put2 p1 p2) else none)=some p:=m
  by_cases c0:p1.length=p2.length/\(p1.headD []).length+(p2.headD []).length<=6
  ·rw[q07 c0]at a
   cases a;rw[e,b,l,j]at c0;refine⟨r,c+c',⟨?_,h1.r0,h1.r6,by have:=h1.c0;omega,c0.2⟩⟩;refine⟨by unfold put2;rw[My,q0K,e,b];omega,λx g=>?_⟩;unfold put2 at g;obtain⟨y,n,rfl⟩:=Nf.mp g;have:=List.of_mem_zip n;rw[MT,h1.rc.2 _ this.1,h2.rc.2 _ this.2]
  ·rw[q06 c0]at a;cases a
 ·have a:(if(p1.headD []).length=(p2.headD []).length/\p1.length+p2.length<=6 then some (p1++p2) else none)=some p:=m
  by_cases c0:(p1.headD []).length=(p2.headD []).length/\p1.length+p2.length<=6
  ·rw[q07 c0]at a
   cases a;rw[e,b,l,j]at c0;refine⟨r+r',c,⟨⟨by rw[MT,e,b],λx g=>?_⟩,by have:=h1.r0;omega,c0.2,h1.c0,h1.c6⟩⟩;rcases MK.mp g with h | h
   ·exact h1.rc.2 _ h
   ·rw[c0.1];exact h2.rc.2 _ h
  ·rw[q06 c0]at a;cases a
theorem ut{r c:Nat}(h:fA p r c)(t:Nat):∃r c,fA (turned p t) r c:=by
 have a:fL (if 4<=t then mirror p else p) r c:=by split;exact iu h.rc;exact h.rc
 have:=dr (t%4) a h.r0 h.c0;unfold turned
 by_cases e:t%4%2=0
 ·rw[q07 e,q07 e]at this;exact⟨r,c,this,h.r0,h.r6,h.c0,h.c6⟩
 ·rw[q06 e,q06 e]at this;exact⟨c,r,this,h.c0,h.c6,h.r0,h.r6⟩
theorem Gr.pic6{rs:Yaa}(hg:∀r∈rs,cU r){d:Dt}{nm:Nu}{p:bH}{c:Int}{k:Nat}(g:Gr rs d nm p c k):∃r c,fA p r c:=by
 induction g with
 | @cell n v e=>
  have:=oU (hg _ (MB e)).good.sg;exact⟨1,1,⟨rfl,λx a=>by rw[Mz.mp a];exact this⟩,nofun,nofun,nofun,nofun⟩
 |turn e _ ih=>obtain⟨r,c,h⟩:=ih;exact ut h _
 |pair h e _ _ m ih1 ih2=>obtain⟨r,c,h1⟩:=ih1;obtain⟨r',c',h2⟩:=ih2;exact xc h h1 h2 m
theorem zw{H:Hp}{lp:Addr}{as:Ny}(h1:H l=some (.lst (as.map V.ref)))(h2:H lp=some (.lst (aJ p)))(h3:p≠[]):lp≠l:=λe=>by
 rw[e,h1]at h2;have h4:=HO.lst.inj (q0P h2);cases p with
 |nil=>exact h3 rfl
 |cons r p=>
  cases as with
  |nil=>exact nomatch h4
  |cons a as=>have:=(List.cons.inj h4).1;cases this
theorem ik(s:aE H H')(h:H' a=none):H a=none:=by
 cases e:H a with
 |none=>rfl
 |some o=>rw[s _ _ e]at h;cases h
theorem i7{H:Hp}{Q:VK}(ha:H a=some (.tup xs))(hb:H b=some (.tup ys))(hx:xs≠[])(hz:xs.length+ys.length<=1000)(q:∀p H',H' p=some (.tup (xs++ys))->aE H H'->Q (.ref p) H'):Eo K (.ref a) (.ref b) H Q:=
 ⟨a,b,xs,ys,rfl,rfl,aV.of ha,aV.of hb,hx,ao ⋯,λe=>q a H (by rw[e,M8];exact ha) (aE.refl _),λ_ p hp=>q p _ ad (ae hp)⟩
theorem eF{c:Prop}[Decidable c]{A B:Prop}(hA:c->A)(hB:¬ c->B):if c then A else B:=by
 by_cases h:c
 ·rw[q07 h];exact hA h
 ·rw[q06 h];exact hB h
inductive bu where
 |n0:Int->bu
 |n1:Int->bu->bu
 |n2:Int->bu->bu->bu
def bu.i:bu->Int
 | .n0 i=>i
 | .n1 i _=>i
 | .n2 i _ _=>i
def bu.ps:bu->List bu
 | .n0 _=>[]
 | .n1 _ a=>[a]
 | .n2 _ a b=>[a,b]
def bu.d:bu->Dt
 | .n0 i=>.tup [.int i]
 | .n1 i a=>.tup [.int i,a.d]
 | .n2 i a b=>.tup [.int i,a.d,b.d]
def bu.cnt:bu->Nat
 | .n0 _=>1
 | .n1 _ a=>a.cnt+1
 | .n2 _ a b=>a.cnt+b.cnt+1
def bu.dep:bu->Nat
 | .n0 _=>1
 | .n1 _ a=>a.dep+1
 | .n2 _ a b=>max a.dep b.dep+1
theorem bu.d_eq(t:bu):t.d=.tup (.int t.i::t.ps.map bu.d):=by cases t<;>rfl
theorem bu.val{t:bu}(h:bg H t.d v):∃a vs,v=.ref a/\H a=some (.tup (.int t.i::vs))/\aP H (t.ps.map bu.d) vs:=by
 rw[t.d_eq]at h;unfold bg at h;obtain⟨a,xs,rfl,g,c⟩:=h;obtain⟨x0,j,rfl,b,e⟩:=c.uncons;unfold bg at b;subst b;exact⟨a,j,rfl,g,e⟩
theorem bu.of{H:Hp}{vs:List V}{t:bu}(h:H a=some (.tup (.int t.i::vs)))(k:aP H (t.ps.map bu.d) vs):bg H t.d (.ref a):=by
 rw[t.d_eq];exact bg.node h k
theorem bu.lt{s t:bu}(h:s∈t.ps):s.dep<t.dep/\s.cnt<t.cnt:=by
 cases t with
 |n0 i=>exact nomatch h
 |n1 i a=>rw[Mz.mp h];simp only[bu.dep,bu.cnt];omega
 |n2 i a b=>
  rcases MM.mp h with rfl | h
  ·simp only[bu.dep,bu.cnt];omega
  ·rw[Mz.mp h];simp only[bu.dep,bu.cnt];omega
theorem bu.plen(t:bu):t.ps.length<=2:=by cases t<;>simp[bu.ps]
theorem bu.cnt1(t:bu):1<=t.cnt:=by cases t<;>simp[bu.cnt]
theorem bu.dep1(t:bu):1<=t.dep:=by cases t<;>simp[bu.dep]
def ye(i:Int):List bu->bu
 | []=>.n0 i
 | [a]=>.n1 i a
 |a::b::_=>.n2 i a b
theorem AT(i:Int)(ds:List bu):(ye i ds).i=i:=by
 match ds with
 | []=>rfl
 | [a]=>rfl
 |a::b::_=>rfl
theorem EI(i:Int){ds:List bu}(h:ds.length<=2):(ye i ds).ps=ds:=by
 match ds,h with
 | [],_=>rfl
 | [a],_=>rfl
 | [a,b],_=>rfl
 |a::b::c::_,h=>simp at h
theorem A5(t:bu):ye t.i t.ps=t:=by cases t<;>rfl
def Sub:List Nat->bu->Option bu
 | [],t=>some t
 |k::pl,t=>match t.ps[k]? with
  |some s=>Sub pl s
  |none=>none
theorem fz{α:Type}(x:α)(xs:List α):dY (x::xs) 0=some x:=show dY (x::xs) ((0:Nat):Int)=some x from aM rfl
theorem fH:∀{ds:List Dt} {xs:List V},aP H ds xs->∀{j:Nat} {x:V},xs[j]?=some x->∃d,ds[j]?=some d/\bg H d x
 | [],_,h,j,x,e=>by unfold aP at h;subst h;simp at e
 |d::ds,xs,h,j,x,e=>by
  obtain⟨y,r,rfl,h1,h2⟩:=h.uncons
  match j,e with
  |0,e=>cases e;exact⟨d,rfl,h1⟩
  |j+1,e=>exact fH h2 e
theorem kY{t:bu}{vs:List V}{j:Nat}{x:V}(h:aP H (t.ps.map bu.d) vs)(e:vs[j]?=some x):∃s,t.ps[j]?=some s/\bg H s.d x:=by
 obtain⟨d,h1,h2⟩:=fH h e;rw[MA]at h1;obtain⟨s,a,rfl⟩:=MY.mp h1;exact⟨s,a,h2⟩
theorem lu{t:bu}{vs:List V}(h:aP H (t.ps.map bu.d) vs):vs.length=t.ps.length:=by rw[h.length,My]
theorem Ek(x:V)(ys:List V):iY (x::ys) (some 1) none=ys:=by
 unfold iY;rw[show(some 1:Option Int)=some ((1:Nat):Int) from rfl,HT.sIx_nat,HT.sIx_none,Nn (by simp)];exact q0E (by simp)
theorem nh(x:V)(ys:List V):¬ (HT.sIx (x::ys).length 0 (some 1)=0/\HT.sIx (x::ys).length (x::ys).length none=(x::ys).length):=by
 rw[show(some 1:Option Int)=some ((1:Nat):Int) from rfl,HT.sIx_nat,Nn (by simp)];exact λh=>q0N h.1 nofun
theorem fJ{z:Str}{n:Nat}(h:n∈bS z rs):∃q,rs[n]?=some q/\tx q.2.n=z:=by
 unfold bS at h;obtain⟨x,hx,e⟩:=List.mem_filterMap.mp h
 split at e
 ·rename_i hz
  cases e;exact⟨x.1,List.mem_zipIdx_iff_getElem?.mp hx,hz⟩
 ·cases e
theorem AA(S:Nat×RV->Nat)(z:Nu):∀(n:Nat) (rs:Yaa),rs.length=n->((bS (tx z) rs).map λi=>(rs[i]?.map S).getD 0).sum=((cB z rs).map S).sum
 |0,rs,h=>by rw[Nd.mp h];rfl
 |n+1,rs,h=>by
  obtain⟨rs',r,rfl⟩:∃rs' r,rs=rs'++[r]:=⟨rs.dropLast,rs.getLast (by intro e;rw[e]at h;cases h),(List.dropLast_concat_getLast _).symm⟩;have hl:rs'.length=n:=by rw[MT,q0U]at h;omega
  have b:=AA S z n rs' hl;rw[sr,MJ,List.sum_append];have j:(bS (tx z) rs').map (λi=>((rs'++[r])[i]?.map S).getD 0)=(bS (tx z) rs').map λi=>(rs'[i]?.map S).getD 0:=q0H λi g=>by
   obtain⟨q,c,_⟩:=fJ g;rw[MS (Mw.mp c).1]
  rw[j,b];unfold cB;rw[List.filter_append,MJ,List.sum_append]
  congr 1
  by_cases a:r.2.n=z
  ·rw[q07 (by rw[a])]
   simp[a]
  ·rw[q06 (λe=>a (iM e))]
   simp[a]
theorem jw{q:Nat×RV}{r c:Nat}{k:Int}(h4:q.1<4)(hq:1<=q.2.c)(hr:1<=r)(hc:1<=c)(hr6:r<=6)(hc6:c<=6)(hk:k<=16):(bT q r c k).length<=75:=by
 obtain⟨t,v⟩:=q;have:t=0\/t=1\/t=2\/t=3:=by simp at h4;omega
 simp only at hq;rcases this with rfl | rfl | rfl | rfl
 ·show(if r=1/\c=1/\k=v.c then[[]] else[]).length<=75
  split<;>simp
 ·refine M5 (gx (by show k-v.c<=15;omega) _ λz a=>iV hr a) ?_
  rw[gX];omega
 ·refine M5 (gx (by show k-v.c<=15;omega) _ λz a=>iR hc a) ?_
  rw[gJ];omega
 ·show([[_]]:List (List TR)).length<=75
  simp
theorem pN{z:Str}:∀{m:List (Str×List Nat)},z∉m.map (·.1)->m.lookup z=none
 | [],_=>rfl
 |p::m,h=>by
  rw[M4,MM]at h;have h1:(z==p.1)=false:=beq_eq_false_iff_ne.mpr λe=>h (.inl e);rw[List.lookup_cons,h1];exact pN λq=>h (.inr q)
theorem FR{H:Hp}{t:Nat}{Q:VK}(hb:H b=some (.tup (ce p)))(h4:t<4)(ra:i_ R H t a v)(r1:1<=p.2.1)(r6:p.2.1<=6)(c1:1<=p.2.2.1)(c6:p.2.2.1<=6)(k16:p.2.2.2<=16)(k1:1<=p.2.2.2)(vc:1<=v.c)(vc9:v.c<=9)(vt:0<=v.t)(q:∀l H',H l=none->fV H H' l (bT (t,v) p.2.1 p.2.2.1 p.2.2.2)->aE H H'->Q (.ref l) H') :
  ∃o,o∈mi R/\∃a_1,V.ref a=V.ref a_1/\∃dx fs,H a_1=some (.ins o.1 dx fs)/\fs.lookup (Str.ofString "part_rows")=none/\∃xs,aV K H b xs/\∃v1,dY xs 1=some v1/\∃xs,aV K H b xs/\∃v2,dY xs 2=some v2/\∃xs,aV K H b xs/\∃v3,dY xs 3=some v3/\o.2 [.ref a,v1,v2,v3] H Q E:=by
 obtain⟨o,c,dx,fs,j,g,e⟩:=Fw (E:=E) h4 ra r1 r6 c1 c6 k16 k1 vc vc9 vt q;exact⟨o,c,a,rfl,dx,fs,j,g,_,aV.of hb,_,rfl,_,aV.of hb,_,rfl,_,aV.of hb,_,rfl,e⟩
abbrev v9:=Nat×List TR×Nat
def cT(rs:Yaa)(p:TR)(i:Nat):List v9:=match rs[i]? with
 |some q=>(bT q p.2.1 p.2.2.1 p.2.2.2).filterMap λps=>if 0<aS (CN rs) ps then some (i,ps,aS (CN rs) ps) else none
 |none=>[]
def aZ(rs:Yaa)(p:TR):List v9:=if p.2.2.2<fw p.2.1 p.2.2.1 then[] else(bS (tx p.1) rs).flatMap (cT rs p)
def bE(F:TR->List bu):List TR->List (List bu)
 | []=>[[]]
 |p::ps=>(F p).flatMap λt=>(bE F ps).map (t :: ·)
def GE(rs:Yaa):Nat->TR->List bu
 |0,_=>[]
 |f+1,p=>(aZ rs p).flatMap λs=>(bE (GE rs f) s.2.1).map (ye (s.1:Int))
abbrev RT(rs:Yaa)(p:TR):List bu:=GE rs 17 p
structure d9(p:TR):Prop where
 r1:1<=p.2.1
 r6:p.2.1<=6
 c1:1<=p.2.2.1
 c6:p.2.2.1<=6
 k16:p.2.2.2<=16
theorem fN{s:v9}(h:s∈aZ rs p):∃q,rs[s.1]?=some q/\q.2.n=p.1/\s.2.1∈bT q p.2.1 p.2.2.1 p.2.2.2/\s.2.2=aS (CN rs) s.2.1/\0<s.2.2/\fw p.2.1 p.2.2.1<=p.2.2.2:=by
 unfold aZ at h
 split at h
 ·cases h
 ·rename_i hk
  obtain⟨i,hi,h⟩:=List.mem_flatMap.mp h;obtain⟨q,hq,hn⟩:=fJ hi;unfold cT at h;rw[hq]at h;obtain⟨ps,hps,e⟩:=List.mem_filterMap.mp h
  split at e
  ·rename_i h0
   cases e;exact⟨q,hq,iM hn,hps,rfl,h0,⋯⟩
  ·cases e
theorem fO(hg:dw rs){p p':TR}{s:v9}(ok:d9 p)(h:s∈aZ rs p)(hp:p'∈s.2.1):d9 p'/\p'.2.2.2<p.2.2.2:=by
 obtain⟨q,c,_,b,_,_,hk⟩:=fN h;obtain⟨g,e,_⟩:=hg q (MB c);have a:=kr g e ok.r1 ok.c1 b hp;have:=ok.r6;have:=ok.c6;have:=ok.k16;have:=a.rm;have:=a.cm;exact⟨⟨a.r1,⋯,a.c1,⋯,by have:=a.lt;omega⟩,a.lt⟩
theorem pF{F G:TR->List bu}:∀{ps:List TR},(∀p∈ps,F p=G p)->bE F ps=bE G ps
 | [],_=>rfl
 |p::ps,h=>by
  unfold bE;rw[h p q0B,pF λp' hp'=>h p' (MN _ hp')]
theorem kH{α β:Type}{f g:α->List β}:∀{l:List α},(∀x∈l,f x=g x)->l.flatMap f=l.flatMap g
 | [],_=>rfl
 |x::l,h=>by rw[List.flatMap_cons,List.flatMap_cons,h x q0B,kH λy hy=>h y (MN _ hy)]
theorem Ba(ok:d9 p)(h:p.2.2.2<1):aZ rs p=[]:=by
 unfold aZ;rw[q07 (by have:=bR ok.r1 ok.c1;omega)]
theorem nU(ok:d9 p)(h:p.2.2.2<1)(f:Nat):GE rs f p=[]:=by
 cases f with
 |zero=>rfl
 |succ f=>unfold GE;rw[Ba ok h];rfl
theorem w9(hg:dw rs):∀(f:Nat) (p:TR),d9 p->p.2.2.2<(f:Int)+1->GE rs (f+1) p=GE rs f p
 |0,p,ok,h=>by rw[nU ok (by simpa using h),nU ok (by simpa using h)]
 |f+1,p,ok,h=>by
  show(aZ rs p).flatMap _=(aZ rs p).flatMap _;refine kH λs hs=>?_;rw[pF λp' hp'=>?_];obtain⟨ok',lt⟩:=fO hg ok hs hp';exact w9 hg f p' ok' (by push_cast at h;omega)
theorem ng(hg:dw rs){p:TR}(ok:d9 p):RT rs p=(aZ rs p).flatMap λs=>(bE (RT rs) s.2.1).map (ye (s.1:Int)):=by
 have:=(w9 hg 17 p ok (by have:=ok.k16;push_cast;omega)).symm;exact this
theorem xQ{α β:Type}{f:α->List β}{n:Nat}:∀{l:List α},(∀x,(f x).length=n)->(l.flatMap f).length=l.length*n
 | [],_=>by simp
 |x::l,h=>by rw[List.flatMap_cons,MT,h x,xQ (l:=l) h,MI,Nat.add_mul];omega
theorem Af{i:Nat}:∀pss:List (List TR),((pss.filterMap λps=>if 0<aS (CN rs) ps then some ((i,ps,aS (CN rs) ps):v9) else none).map λs=>s.2.2).sum=(pss.map λps=>aS (CN rs) ps).sum
 | []=>rfl
 |ps::pss=>by
  rw[q0Q,M4,List.sum_cons]
  by_cases h0:0<aS (CN rs) ps
  ·rw[q07 h0]
   show((_::_:List v9).map λs=>s.2.2).sum=_;rw[M4,List.sum_cons,Af pss]
  ·rw[q06 h0]
   show(List.map _ _).sum=_;rw[Af pss];omega
theorem fM{F:TR->List bu}{g:TR->Nat}:∀{ps:List TR},(∀p∈ps,(F p).length=g p)->(bE F ps).length=aS g ps:=by
 have a:∀{ps:List TR} (m:Nat),(∀p∈ps,(F p).length=g p)->ps.foldl (λm p=>m*g p) m=m*(bE F ps).length:=by
  intro ps
  induction ps with
  |nil=>intro m _;unfold bE;simp
  |cons p ps ih=>
   intro m h;rw[List.foldl_cons,ih _ λc b=>h c (MN _ b)];have:(bE F (p::ps)).length=(F p).length*(bE F ps).length:=by
    show((F p).flatMap λt=>(bE F ps).map (t :: ·)).length=_;rw[xQ (n:=(bE F ps).length) λt=>by rw[My]]
   rw[this,h p q0B,Nat.mul_assoc]
 intro ps h;unfold aS;rw[a 1 h,Nat.one_mul]
theorem kI{α β:Type}(f:α->List β):∀l:List α,(l.flatMap f).length=(l.map λx=>(f x).length).sum
 | []=>rfl
 |x::l=>by rw[List.flatMap_cons,MT,kI f l,M4,List.sum_cons]
theorem oz(hg:dw rs){p:TR}(ok:d9 p):((aZ rs p).map λs=>s.2.2).sum=CN rs p:=by
 unfold aZ
 by_cases a:p.2.2.2<fw p.2.1 p.2.2.1
 ·rw[q07 a,DR a];rfl
 rw[q06 a];have:=ok.r1;have:=ok.r6;have:=ok.c1;have:=ok.c6;rw[AW hg ok.k16,q06 ⋯,<- AA (λq=>((bT q p.2.1 p.2.2.1 p.2.2.2).map λps=>aS (CN rs) ps).sum) p.1 _ rs rfl,pR]
 congr 1
 refine q0H λi c=>?_;obtain⟨q,b,_⟩:=fJ c;rw[b];show((cT rs p i).map λs=>s.2.2).sum=((bT q p.2.1 p.2.2.1 p.2.2.2).map λps=>aS (CN rs) ps).sum;have e:cT rs p i=(bT q p.2.1 p.2.2.1 p.2.2.2).filterMap λps=>if 0<aS (CN rs) ps then some (i,ps,aS (CN rs) ps) else none:=by unfold cT;rw[b]
 rw[e,Af]
theorem Ft(hg:dw rs):∀(f:Nat) (p:TR),d9 p->p.2.2.2<(f:Int)->(RT rs p).length=CN rs p
 |0,p,ok,h=>by
  show(GE rs 17 p).length=_;rw[nU ok (by simp at h;omega),DR (by have:=bR ok.r1 ok.c1;simp at h;omega)];rfl
 |f+1,p,ok,h=>by
  rw[ng hg ok,kI,<- oz hg ok]
  congr 1
  refine q0H λs hs=>?_;obtain⟨q,hq,_,hps,e,_⟩:=fN hs;rw[My,fM (g:=CN rs) λp' hp'=>?_,e];obtain⟨ok',lt⟩:=fO hg ok hs hp';exact Ft hg f p' ok' (by push_cast at h;omega)
theorem b6(hg:dw rs){p:TR}(ok:d9 p):(RT rs p).length=CN rs p:=Ft hg 17 p ok (by have:=ok.k16;push_cast;omega)
theorem wW{α β:Type}{f:α->List β}{l:List α}{i:Nat}{x:α}(hx:l[i]?=some x){j:Nat}(hj:j<(f x).length):(l.flatMap f)[((l.take i).map λy=>(f y).length).sum+j]?=(f x)[j]?:=by
 obtain⟨a,e⟩:=Mw.mp hx;have c:l=l.take i++x::l.drop (i+1):=by rw[<- e,<- List.drop_eq_getElem_cons a,List.take_append_drop]
 have b:l.flatMap f=(l.take i).flatMap f++(f x++(l.drop (i+1)).flatMap f):=by
  conv=>lhs;rw[c]
  rw[List.flatMap_append,List.flatMap_cons]
 rw[b,<- kI,MR ⋯,Nat.add_sub_cancel_left,MS hj]
theorem uy{α:Type}(g:α->Nat):∀(l:List α) (i:Nat) (x:α),l[i]?=some x->((l.take (i+1)).map g).sum=((l.take i).map g).sum+g x:=by
 intro l i x h;rw[q0D,h,MJ,List.sum_append];simp
theorem iW{p:TR}(k:Nat):(bE F [p])[k]?=(F p)[k]?.map λt=>[t]:=by
 unfold bE bE;have:((F p).flatMap λt=>([[]]:List (List bu)).map (t :: ·))=(F p).map λt=>[t]:=by
  induction F p with
  |nil=>rfl
  |cons t l ih=>rw[List.flatMap_cons,ih];rfl
 rw[this,MA]
theorem zb{α β:Type}{f:α->List β}{n:Nat}(hn:∀x,(f x).length=n):∀{l:List α} {k:Nat} {x:α} {y:β},l[k/n]?=some x->(f x)[k%n]?=some y->(l.flatMap f)[k]?=some y:=by
 intro l k x y h1 h2
 by_cases e:n=0
 ·subst e
  have:=hn x;rw[Nd.mp this]at h2;simp at h2
 have a:((l.take (k/n)).map λy=>(f y).length).sum=k/n*n:=by
  have b:(l.take (k/n)).length=k/n:=by rw[Na];have:=(Mw.mp h1).1;omega
  have:∀m:List α,(m.map λy=>(f y).length).sum=m.length*n:=by
   intro m
   induction m with
   |nil=>simp
   |cons z m ih=>rw[M4,List.sum_cons,ih,hn,MI,Nat.add_mul];omega
  rw[this,b]
 have c:k%n<(f x).length:=by rw[hn];exact Nat.mod_lt _ ⋯
 have:=wW h1 c;rw[a,h2]at this;rw[show k/n*n+k%n=k by rw[Nat.mul_comm];exact Nat.div_add_mod k n]at this;exact this
theorem tW{F:TR->List bu}{k:Nat}{t1 t2:bu}(h1:(F p1)[k/(F p2).length]?=some t1)(h2:(F p2)[k%(F p2).length]?=some t2):(bE F [p1,p2])[k]?=some [t1,t2]:=by
 show((F p1).flatMap λt=>(bE F [p2]).map (t :: ·))[k]?=_;have a:(bE F [p2]).length=(F p2).length:=by
  rw[fM (g:=λp=>(F p).length) λ_ _=>rfl];simp[aS]
 refine zb (n:=(F p2).length) (λt=>by rw[My,a]) h1 ?_;rw[MA,iW,h2];rfl
theorem Ev(hg:dw rs){p:TR}(ok:d9 p){i:Nat}{s:v9}(hs:(aZ rs p)[i]?=some s){j:Nat}{ts:List bu}(hj:(bE (RT rs) s.2.1)[j]?=some ts):(RT rs p)[(((aZ rs p).take i).map λs=>s.2.2).sum+j]?=some (ye (s.1:Int) ts):=by
 rw[ng hg ok];have b:∀s∈aZ rs p,((bE (RT rs) s.2.1).map (ye (s.1:Int))).length=s.2.2:=λs hs=>by
  obtain⟨q,hq,_,hps,e,_⟩:=fN hs;rw[My,fM (g:=CN rs) λp' a=>b6 hg (fO hg ok hs a).1,e]
 have e:(((aZ rs p).take i).map λs=>s.2.2)=((aZ rs p).take i).map λs=>((bE (RT rs) s.2.1).map (ye (s.1:Int))).length:=q0H λs hs=>(b s (q0F hs)).symm;rw[e,wW (f:=λs:v9=>(bE (RT rs) s.2.1).map (ye (s.1:Int))) hs (by rw[My];exact(Mw.mp hj).1),MA,hj]
 rfl
def cF(H0 H:Hp)(l:Addr)(ss:List v9):Prop:=H0 l=none/\∃ts:List Addr,H l=some (.lst (ts.map V.ref))/\ts.length=ss.length/\∀(i:Nat) t s,ts[i]?=some t->ss[i]?=some s->∃rl,(H0 rl=none/\rl≠l)/\H t=some (.tup [.int (s.1:Int),.ref rl,.int (s.2.2:Int)])/\sK H rl s.2.1
theorem cF.kp{ms:List v9}(h:cF H0 H l ms)(s:Kp H H'):cF H0 H' l ms:=by
 obtain⟨k,a,h1,h2,j⟩:=h;refine⟨k,a,s.lst h1,h2,λi t x n m=>?_⟩;obtain⟨b,c,e,g⟩:=j i t x n m;exact⟨b,c,s.tup e,g.kp s⟩
theorem cF.nil{H0 H:Hp}(h0:H0 l=none)(h:H l=some (.lst [])):cF H0 H l []:=⟨h0,[],h,rfl,λi a ps e=>by simp at e⟩
theorem cF.app{t rl:Addr}{ms:List v9}{x:v9}(h:cF H0 H l ms)(hx:H l=some (.lst xs))(ht:H t=some (.tup [.int (x.1:Int),.ref rl,.int (x.2.2:Int)]))(hT:sK H rl x.2.1)(hn:H0 rl=none/\rl≠l):cF H0 (aC H l (.lst (xs++[V.ref t]))) l (ms++[x]):=by
 obtain⟨v,j,h1,h2,u⟩:=h;rw[hx]at h1;cases h1;have a:∀m o,H m=some (.tup o)->aC H l (.lst (j.map V.ref++[V.ref t])) m=some (.tup o):=λm o e=>by rw[aq (λz=>by rw[z,hx]at e;cases e)];exact e
 refine⟨v,j++[t],by rw[ad,MJ];rfl,by rw[MT,MT,h2];rfl,λi b y g k=>?_⟩
 by_cases r:i<j.length
 ·rw[MS r]at g
  rw[MS ⋯]at k;obtain⟨n,c,e,q⟩:=u i b y g k;exact⟨n,c,a _ _ e,q.put c.2 ⟨_,hx⟩⟩
 ·have p:i=j.length:=by
   have:=(Mw.mp g).1;simp at this;omega
  subst p;rw[MR (MU _),Nat.sub_self]at g;rw[h2,MR (MU _),Nat.sub_self]at k;cases g;cases k
  exact⟨rl,hn,a _ _ ht,hT.put hn.2 ⟨_,hx⟩⟩
theorem cF.len{ms:List v9}(h:cF H0 H l ms)(hx:H l=some (.lst xs)):xs.length=ms.length:=by
 obtain⟨_,ts,h1,h2,_⟩:=h;rw[hx]at h1;cases h1;rw[My,h2]
def Ia(H:Hp)(l:Addr)(ps:List TR):Prop:=∃(bs:Ny) (o:Obj),H l=some (.frz o (.lst (bs.map V.ref)))/\bs.length=ps.length/\∀(i:Nat) b p,bs[i]?=some b->ps[i]?=some p->H b=some (.tup (ce p))
def kb(H:Hp)(l:Addr)(ss:List v9):Prop:=∃(ts:Ny) (o:Obj),H l=some (.frz o (.lst (ts.map V.ref)))/\ts.length=ss.length/\∀(i:Nat) t s,ts[i]?=some t->ss[i]?=some s->∃rl,H t=some (.tup [.int (s.1:Int),.ref rl,.int (s.2.2:Int)])/\Ia H rl s.2.1
def wN(H H':Hp):Prop:=(∀x o u,H x=some (.frz o u)->H' x=some (.frz o u))/\∀x xs,H x=some (.tup xs)->H' x=some (.tup xs)
theorem Kp.z(s:Kp H H'):wN H H':=⟨λx o u e=>s _ _ id e,λx xs e=>s _ _ id e⟩
theorem wN.trans(a:wN H H1)(b:wN H1 H2):wN H H2:=⟨λx o u e=>b.1 x o u (a.1 x o u e),λx xs e=>b.2 x xs (a.2 x xs e)⟩
theorem wN.put{H:Hp}(h:H l=some (.lst xs)):wN H (aC H l o):=⟨λx o u e=>by rw[aq (λz=>by rw[z,h]at e;cases e)];exact e,λx ys e=>by rw[aq (λz=>by rw[z,h]at e;cases e)];exact e⟩
theorem wN.frz{H:Hp}{ls:Ny}{os:Addr->Obj}:wN H (cZ H ls os):=⟨λx o u e=>gI e (.inr λxs z=>by cases z),λx xs e=>gI e (.inr λxs z=>by cases z)⟩
theorem Ia.kz{ps:List TR}(h:Ia H l ps)(s:wN H H'):Ia H' l ps:=by
 obtain⟨bs,o,h1,h2,a⟩:=h;exact⟨bs,o,s.1 _ _ _ h1,h2,λi b p e c=>s.2 _ _ (a i b p e c)⟩
theorem kb.kz{ms:List v9}(h:kb H l ms)(s:wN H H'):kb H' l ms:=by
 obtain⟨a,o,h1,h2,g⟩:=h;refine⟨a,o,s.1 _ _ _ h1,h2,λi t x k j=>?_⟩;obtain⟨b,e,c⟩:=g i t x k j;exact⟨b,s.2 _ _ e,c.kz s⟩
def D8(H:Hp)(t:Addr):Option Addr:=match H t with
 |some (.tup [_,.ref rl,_])=>some rl
 |_=>none
theorem cF.known{ss:List v9}(h:cF H0 H l ss):∃ls:List Addr,(∀x∈ls,∃xs,H x=some (.lst xs))/\(∀x∈ls,H0 x=none)/\∀os,kb (cZ H ls os) l ss:=by
 obtain⟨C,a,h1,h2,q⟩:=h;have mem:∀x∈a.filterMap (D8 H),(∃xs,H x=some (.lst xs))/\H0 x=none:=λx hx=>by
  obtain⟨t,w,e⟩:=List.mem_filterMap.mp hx;obtain⟨i,o⟩:=List.getElem?_of_mem w;obtain⟨c,n,m,k⟩:=q i t (ss[i]'(by rw[<- h2];exact(Mw.mp o).1)) o (Mv _);unfold D8 at e;rw[m]at e;cases e;obtain⟨bs,j,_⟩:=k;exact⟨⟨_,j⟩,n.1⟩
 refine⟨l::a.filterMap (D8 H),λx hx=>?_,λx hx=>?_,λos=>?_⟩
 ·rcases MM.mp hx with rfl | hx
  ·exact⟨_,h1⟩
  ·exact(mem x hx).1
 ·rcases MM.mp hx with rfl | hx
  ·exact C
  ·exact(mem x hx).2
 ·refine⟨a,_,zJ h1 (q0B ..),h2,λi t s r m=>?_⟩
  obtain⟨c,n,e,k⟩:=q i t s r m;have y:c∈a.filterMap (D8 H):=List.mem_filterMap.mpr ⟨t,MB r,by unfold D8;rw[e]⟩;obtain⟨bs,j,B,g⟩:=k;exact⟨c,wN.frz.2 _ _ e,bs,_,zJ j (MN _ y),B,λi b p v u=>wN.frz.2 _ _ (g i b p v u)⟩
def fR(H:Hp)(rs:Yaa)(m1:List (List dm×V)):Prop:=∀(p:TR) v,cz m1 (dH p)=some v->∃l,v=.ref l/\kb H l (aZ rs p)
theorem fR.kz{m1:List (List dm×V)}(h:fR H rs m1)(s:wN H H'):fR H' rs m1:=λp v e=>by
 obtain⟨l,e2,h2⟩:=h p v e;exact⟨l,e2,h2.kz s⟩
theorem fR.kp{m1:List (List dm×V)}(h:fR H rs m1)(s:Kp H H'):fR H' rs m1:=h.kz s.z
theorem o8(hg:dw rs){p:TR}(ok:d9 p)(h24:rs.length<=24):(aZ rs p).length<=1800:=by
 unfold aZ
 split
 ·simp
 ·rw[kI]
  refine M5 (jn _ 75 _ λi b=>?_) ?_
  ·obtain⟨q,a,_⟩:=fJ b
   obtain⟨e,c,_⟩:=hg q (MB a);unfold cT;rw[a];exact M5 (List.length_filterMap_le _ _) (jw e c ok.r1 ok.c1 ok.r6 ok.c6 ok.k16)
  ·have:=ua (tx p.1) rs
   omega
def IW(g d1 d2:Addr):List (Str×V):=[("grammar",.ref g),("steps",.ref d1),("totals",.ref d2)]
structure sM(st:Nu)(rs:Yaa)(m:Nat)(p:TR):Prop where
 nm:tx p.1∈(bt (tx st) rs).map (·.1)
 r1:1<=p.2.1
 rm:p.2.1<=m
 c1:1<=p.2.2.1
 cm:p.2.2.1<=m
 k0:-8<=p.2.2.2
 k16:p.2.2.2<=16
theorem sj{α:Type}[DecidableEq α]:∀{l L:List α},l.Nodup->(∀x∈l,x∈L)->l.length<=L.length
 | [],_,_,_=>MV _
 |x::l,L,hn,hs=>by
  have hx:x∈L:=hs x q0B;rw[q0X]at hn;have:=sj (l:=l) (L:=L.erase x) hn.2 λy hy=>(List.mem_erase_of_ne λe=>hn.1 (by rw[<- e];exact hy)).mpr (hs y (MN _ hy));rw[List.length_erase_of_mem hx]at this;have:=List.length_pos_of_mem hx;rw[MI];omega
theorem im{α β:Type}{f:α->List β}{n:Nat}:∀{l:List α},(∀x,(f x).length=n)->(l.flatMap f).length=l.length*n
 | [],_=>by simp
 |x::l,h=>by rw[List.flatMap_cons,MT,h x,im (l:=l) h,MI,Nat.add_mul];omega
def Bv(zs:ND):List (List dm):=zs.flatMap λz=>(List.range 7).flatMap fun(r:Nat)=>(List.range 7).flatMap fun(c:Nat)=>(List.range 25).map fun(j:Nat)=>[.inr z,.inl (r:Int),.inl (c:Int),.inl ((j:Int)-8)]
theorem EO(zs:ND):(Bv zs).length=zs.length*(7*(7*25)):=
 im λz=>(im λr=>(im λc=>by rw[My,q0G]).trans (by rw[q0G])).trans (by rw[q0G])
theorem EA{st:Nu}(d:sM st rs m p)(h6:m<=6):dH p∈Bv ((bt (tx st) rs).map (·.1)):=by
 have:=d.rm;have:=d.cm;have:=d.k0;have:=d.k16;refine List.mem_flatMap.mpr ⟨_,d.nm,List.mem_flatMap.mpr ⟨p.2.1,List.mem_range.mpr ⋯,List.mem_flatMap.mpr ⟨p.2.2.1,List.mem_range.mpr ⋯,Nf.mpr ⟨(p.2.2.2+8).toNat,List.mem_range.mpr ⋯,?_⟩⟩⟩⟩;unfold dH;rw[show(((p.2.2.2+8).toNat:Int)-8)=p.2.2.2 by omega]
structure rH(st:Nu)(rs:Yaa)(m:Nat)(m1 m2:List (List dm×V)):Prop where
 n1:(m1.map (·.1)).Nodup
 n2:(m2.map (·.1)).Nodup
 k1:∀k∈m1.map (·.1),k∈Bv ((bt (tx st) rs).map (·.1))
 k2:∀k∈m2.map (·.1),k∈Bv ((bt (tx st) rs).map (·.1))
 ok:∀p:TR,(cz m1 (dH p)).isSome=true->cz m2 (dH p)=some (.int (CN rs p:Nat))
theorem rH.len{st:Nu}{m1:List (List dm×V)}(h:rH st rs m m1 m2)(hz:(bt (tx st) rs).length<=100):m1.length<sizeLine/\m2.length<sizeLine:=by
 have h1:=sj h.n1 h.k1;have h2:=sj h.n2 h.k2;rw[EO,My,My]at h1 h2;exact⟨bf ⋯,bf ⋯⟩
structure hV(R:RC)(CG CT:Addr)(H:Hp)(a dx g dg d1 d2:Addr)(sg st:Nu)(as:Ny)(rs:Yaa)(m:Nat):Prop where
 at_:H a=some (.ins CT dx (IW g d1 d2))
 ne:d1≠d2
 gr:eJ R H CG dg g sg st as rs
 gc:dw rs
 gt:∀q∈rs,0<=q.2.t
 sm:∀p:TR,p.2.1<=m->p.2.2.1<=m->p.2.2.2<=7->CN rs p<2 ^ 64
 m6:m<=6
 n24:rs.length<=24
 nz:(bt (tx st) rs).length<=100
 mm:∃m1 m2,H d1=some (.dT m1)/\H d2=some (.dT m2)/\rH st rs m m1 m2/\fR H rs m1
section
variable {R:RC}{CG CT:Addr}{H H':Hp}{a dx g dg d1 d2:Addr}{sg st:Nu}{as:Ny}{rs:Yaa}{m:Nat}
theorem hV.kp(e:hV R CG CT H a dx g dg d1 d2 sg st as rs m)(s:ck d1 d2 H H'):Kp H H':=λx o ho hx=>by
 obtain⟨m1,m2,h1,h2,_⟩:=e.mm;refine s x o (λz=>?_) (λz=>?_) hx
 ·rw[z,h1]at hx;cases hx;exact ho trivial
 ·rw[z,h2]at hx;cases hx;exact ho trivial
theorem hV.next(e:hV R CG CT H a dx g dg d1 d2 sg st as rs m)(s:ck d1 d2 H H')(mm:∃m1 m2,H' d1=some (.dT m1)/\H' d2=some (.dT m2)/\rH st rs m m1 m2/\fR H' rs m1):hV R CG CT H' a dx g dg d1 d2 sg st as rs m:=
 ⟨(e.kp s).ins e.at_,e.ne,e.gr.kp (e.kp s),e.gc,e.gt,e.sm,e.m6,e.n24,e.nz,mm⟩
theorem hV.fresh(e:hV R CG CT H a dx g dg d1 d2 sg st as rs m)(s:ck d1 d2 H H')(mm:∃m1 m2,H' d1=some (.dT m1)/\H' d2=some (.dT m2)/\rH st rs m m1 m2/\fR H' rs m1){x:Addr}(hx:H' x=none):H x=none:=by
 cases b:H x with
 |none=>rfl
 |some o=>
  obtain⟨m1,m2,h1,h2,_⟩:=mm;have:=s x o (λz=>by rw[z,h1]at hx;cases hx) (λz=>by rw[z,h2]at hx;cases hx) b;rw[this]at hx;cases hx
theorem hV.up(e:hV R CG CT H a dx g dg d1 d2 sg st as rs m)(s:aE H H'):hV R CG CT H' a dx g dg d1 d2 sg st as rs m:=by
 obtain⟨m1,b,h1,h2,j,c⟩:=e.mm;exact e.next (.of s) ⟨m1,b,s _ _ h1,s _ _ h2,j,c.kp (.of s)⟩
end
theorem BX{st:Nu}{rs:Yaa}{q:Nat×RV}(hq:q∈rs)(h4:q.1<4){z:Nu}(hz:z∈bh q.1 q.2):tx z∈(bt (tx st) rs).map (·.1):=
 (ol _ _ _).mpr (.inr ⟨(tx q.2.n,(bh q.1 q.2).map tx),by unfold GO;exact List.mem_map_of_mem (f:=λr:Nat×RV=>(tx r.2.n,(bh r.1 r.2).map tx)) hq,.inr (List.mem_map_of_mem hz)⟩)
theorem sM.part{st:Nu}{p':TR}{q:Nat×RV}{ps:List TR}(d:sM st rs m p)(gc:dw rs)(hq:q∈rs)(k1:1<=p.2.2.2)(h:ps∈bT q p.2.1 p.2.2.1 p.2.2.2)(hp:p'∈ps):sM st rs m p'/\p'.2.2.2<p.2.2.2:=by
 obtain⟨c,j,hc9⟩:=gc q hq;have a:=kr c j d.r1 d.c1 h hp;have:=d.rm;have:=d.cm;have:=d.k16;have:=a.rm;have:=a.cm;have lt:=a.lt;refine⟨⟨?_,a.r1,⋯,a.c1,⋯,?_,⋯⟩,lt⟩
 ·have mem:p'.1∈bh q.1 q.2:=by
   rcases dA c d.r1 d.c1 h with rfl | ⟨p2,rfl,k,e2,e3⟩ | ⟨g,z,f,sz,f1,f2,rfl⟩
   ·cases hp
   ·rw[Mz.mp hp,k]
    have:q.1=0\/q.1=1\/q.1=2\/q.1=3:=by omega
    rcases this with e | e | e | e
    ·exfalso
     unfold bT at h;rw[e]at h;simp only at h
     split at h
     ·simp at h
     ·simp at h
    ·rw[e];simp[bh]
    ·rw[e];simp[bh]
    ·rw[e];simp[bh]
   ·have b:bh q.1 q.2=[q.2.o1,q.2.o2]:=by rcases g with e | e<;>rw[e]<;>rfl
    rw[b];rcases(show p'=_\/p'=_ by simpa using hp) with rfl | rfl<;>simp
  exact BX hq c mem
 ·rcases a.ge with h | h<;>omega
abbrev eG(st:Nu)(rs:Yaa)(m:Nat)(H:Hp)(d1 d2:Addr):Prop:=∃m1 m2,H d1=some (.dT m1)/\H d2=some (.dT m2)/\rH st rs m m1 m2/\fR H rs m1
inductive bA(R:RC)(CG CT CN_:Addr)(n:Nat)(vs:List V)(H:Hp)(Q:VK)(E:XK):Prop
 |mk (a dx g dg d1 d2 b:Addr) (sg st:Nu) (as:Ny) (rs:Yaa) (m:Nat) (p:TR) (_:vs=[.ref a,.ref b]) (_:hV R CG CT H a dx g dg d1 d2 sg st as rs m) (_:H b=some (.tup (ce p))) (_:((sM st rs m p/\0<n/\p.2.2.2<(n:Int)/\(∀H',ck d1 d2 H H'->eG st rs m H' d1 d2->Q (.int (CN rs p:Nat)) H'))\/(0<n/\tx p.1∉(bt (tx st) rs).map (·.1)/\E (.ref CN_) none H)))
inductive bX(R:RC)(CG CT CN_:Addr)(n:Nat)(vs:List V)(H:Hp)(Q:VK)(E:XK):Prop
 |mk (a dx g dg d1 d2 b:Addr) (sg st:Nu) (as:Ny) (rs:Yaa) (m:Nat) (p:TR) (_:vs=[.ref a,.ref b]) (_:hV R CG CT H a dx g dg d1 d2 sg st as rs m) (_:H b=some (.tup (ce p))) (_:((sM st rs m p/\0<n/\p.2.2.2<(n:Int)/\(∀l H',ck d1 d2 H H'->eG st rs m H' d1 d2->(∃m2,H' d2=some (.dT m2)/\cz m2 (dH p)=some (.int (CN rs p:Nat)))->kb H' l (aZ rs p)->Q (.ref l) H'))\/(0<n/\tx p.1∉(bt (tx st) rs).map (·.1)/\E (.ref CN_) none H)))
inductive fh(R:RC)(CG CT CN_:Addr)(n:Nat)(vs:List V)(H:Hp)(Q:VK)(E:XK):Prop
 |mk (a dx g dg d1 d2 b:Addr) (sg st:Nu) (as:Ny) (rs:Yaa) (m:Nat) (p:TR) (_:vs=[.ref a,.ref b]) (_:hV R CG CT H a dx g dg d1 d2 sg st as rs m) (_:H b=some (.tup (ce p))) (_:((sM st rs m p/\0<n/\p.2.2.2<(n:Int)/\(∀l H',ck d1 d2 H H'->eG st rs m H' d1 d2->cF H H' l (aZ rs p)->Q (.ref l) H'))\/(0<n/\tx p.1∉(bt (tx st) rs).map (·.1)/\E (.ref CN_) none H)))
inductive cQ(R:RC)(CG CT:Addr)(n:Nat)(vs:List V)(H:Hp)(Q:VK)(_E:XK):Prop
 |mk (a dx g dg d1 d2 l:Addr) (sg st:Nu) (as:Ny) (rs:Yaa) (m:Nat) (ps:List TR) (_:vs=[.ref a,.ref l]) (_:hV R CG CT H a dx g dg d1 d2 sg st as rs m) (_:sK H l ps) (_:(∀p∈ps,sM st rs m p/\0<n/\p.2.2.2<(n:Int))) (_:ps.length<=2) (_:(∀p1 p2,ps=[p1,p2]->p1.2.2.2<=7\/p2.2.2.2<=7)) (_:∀H',ck d1 d2 H H'->eG st rs m H' d1 d2->Q (.int (aS (CN rs) ps:Nat)) H')
theorem u5{t u:TS}{σ:St}(h:∀t' u',t'=t->u'=u->Es c t' u' D σ H):Es c t u D σ H:=h t u rfl rfl
theorem sM.row{st:Nu}(d:sM st rs m p)(h6:m<=6):d9 p:=⟨d.r1,by have:=d.rm;omega,d.c1,by have:=d.cm;omega,d.k16⟩
abbrev gG:Stmt:=fG 41 0
inductive hU(K:W.Frag)(vs:List V)(H:Hp)(Q:VK)(_E:XK):Prop
 |mk (a C dx g:Addr) (_:vs=[.ref a,.ref g]) (_:H a=some (.ins C dx [])) (_:m8 K C) (_:(av K C "grammar"/\av K C "steps"/\av K C "totals")) (_:∀d1 d2 H',H d1=none->H d2=none->d1≠d2->H' a=some (.ins C dx (IW g d1 d2))->H' d1=some (.dT [])->H' d2=some (.dT [])->bW a H H'->Q .non H')
theorem zI:az ["self","grammar"] ["self","grammar"] (am gG):=by walk_at "c"
theorem zL{f:Addr}(F:cE K "__init__" "TreeRows.__init__" gG f fd)(nb:NB mg):↑aY 1 f fd ["self","grammar"] (hU K):=by
 have sc:=zI;walk_at "f"
 ·obtain⟨a,C,k,g,rfl,O,B,⟨M,L,J⟩,q⟩:=h
  refine⟨_,(af (dC (al 0) (al 1) rfl)
   (af (dC (al 0) wV rfl)
   (aj (dC (al 0) wV rfl)))),?_⟩
  symm;refine⟨C,k,_,O,B,M,by simp,h1 _ _ ?_⟩;clear h1;have n:bW a H (aC H a (.ins C k [("grammar",.ref g)])):=(bW.of (aE.refl _)).put;have v:aC H a (.ins C k [("grammar",.ref g)]) a=some (.ins C k [("grammar",.ref g)]):=ad;change Ch _ _ _ _ (aC H a (.ins C k [("grammar",.ref g)]));generalize aC H a (.ins C k [("grammar",.ref g)])=H2 at n v ⊢;symm;intro b j;have o:b≠a:=λe=>by rw[e,v]at j;cases j
  have I:¬ (("grammar":Str)="steps"):=by decide +kernel
  have U:cV "steps" (V.ref b) [(("grammar":Str),V.ref g)]=[(("grammar":Str),V.ref g),(("steps":Str),V.ref b)]:=by simp only[cV,q06 I]
  refine⟨C,k,_,ae j _ _ v,B,L,by simp,?_⟩;rw[U];refine h1 _ _ ?_;clear h1;have S:H b=none:=by
   cases e:H b with
   |none=>rfl
   |some u=>rw[n _ _ o e]at j;cases j
  have m:bW a H (aC (aC H2 b (.dT [])) a (.ins C k [("grammar",.ref g),("steps",.ref b)])):=(n.then (ae j)).put;have r:aC (aC H2 b (.dT [])) a (.ins C k [("grammar",.ref g),("steps",.ref b)]) a=some (.ins C k [("grammar",.ref g),("steps",.ref b)]):=ad;have p:aC (aC H2 b (.dT [])) a (.ins C k [("grammar",.ref g),("steps",.ref b)]) b=some (.dT []):=by rw[aq o,ad]
  generalize aC (aC H2 b (.dT [])) a (.ins C k [("grammar",.ref g),("steps",.ref b)])=H3 at m r p ⊢;ext;intro x c;have l:x≠a:=λe=>by rw[e,r]at c;cases c
  have y:b≠x:=λe=>by rw[<- e,p]at c;cases c
  have G:¬ (("grammar":Str)="totals"):=by decide +kernel
  have D:¬ (("steps":Str)="totals"):=by decide +kernel
  have T:cV "totals" (V.ref x) [(("grammar":Str),V.ref g),(("steps":Str),V.ref b)]=IW g b x:=by unfold IW;simp only[cV,q06 G,q06 D]
  refine⟨C,k,_,ae c _ _ r,B,J,by simp,?_⟩;rw[T];have R:H x=none:=by
   cases e:H x with
   |none=>rfl
   |some u=>rw[m _ _ l e]at c;cases c
  exact q b x _ S R y ad (by rw[aq o,aq y];exact p) (by rw[aq l,ad]) ((m.then (ae c)).put)
theorem xJ(f:TR->Nat)(ps:List TR)(p:TR):aS f (ps++[p])=aS f ps*f p:=by
 unfold aS;rw[List.foldl_append];rfl
abbrev bx:Stmt:=fG 41 4
theorem lS:az ["self","rows","many","row"] ["self","rows"] (am bx):=by walk_at "c"
theorem gm{f CT CN_:Addr}{n:Nat}(F:cE K "many_together" "TreeRows.many_together" bx f fd)(nb:NB mg)(yag:cn P w K mg base (bI P w) (4*n+4) CT "many_in" ["self","row"] (bA R CG CT CN_ n)) :
  aY P w K mg base (bI P w) (4*n+5) f fd ["self","rows"] (cQ R CG CT n):=by
 have sc:=lS;walk_at "x"
 ·obtain⟨a,S,g,dg,D,C,l,U,G,as,b,m,ps,rfl,_⟩:=h;rfl
 ·obtain⟨a,S,g,dg,D,C,l,U,G,as,b,m,ps,rfl,o,⟨bs,Y,O,M⟩,Z,h2,h7,q⟩:=h
  have hu:=hr.units;refine⟨_,(af (q01 2 sc.nd ai)
   (af (bL PassesOwn.leaving rfl (cG (al 1)) (q02 3 sc.nd)
   (aj (bp (aH (br.m0 jP) (al 2) ai (aL _))
   (aj (q01 2 sc.nd (aA (br.m1 fK) (al 2) (bV yag (hr.mono ⋯) (bo λ_ _ _ h=>h) (al 0) (aa (al 3) ac)))))
   aN)))
   (aj (aG (al 2))))),?_⟩
  symm;refine h1 _ _ ?_;grind;refine⟨⟨_,aT.of Y⟩,?_⟩;refine dh (xs:=bs.map V.ref) (λi σ p=>ck D C H p/\i<=bs.length/\eG G b m p D C/\∃x,σ=[some (V.ref a),some (V.ref l),some (V.int (aS (CN b) (ps.take i):Nat)),x]) ⟨λ_ _ _ _ e=>e,MV _,o.mm,_,rfl⟩ (λi σ p _ h=>aT.of ((o.kp h.1).lst Y)) ?_ ?_
  ·rintro i x σ p J ⟨sd,hi,mm,y,rfl⟩
   have k:i<bs.length:=by have:=(Mw.mp J).1;rwa [My]at this
   rw[MA,Mv k]at J;cases J;have v:ps[i]?=some (ps[i]'⋯):=Mv ⋯;have hb:=M i bs[i] _ (Mv k) v;obtain⟨T,n0,pn⟩:=Z _ (MF (show i<ps.length by omega));have u:aS (CN b) (ps.take (i+1))=aS (CN b) (ps.take i)*CN b (ps[i]'⋯):=by rw[q0D,v];exact xJ _ _ _
   have r:=o.next sd mm;ext
   by_cases h0:0<aS (CN b) (ps.take i)
   ·rw[q07 ⋯]
    refine⟨S,_,r.at_,rfl,a,S,g,dg,D,C,bs[i],U,G,as,b,m,_,rfl,r,(o.kp sd).tup hb,.inl ⟨T,n0,pn,λH2 s2 I=>⟨_,rfl,?_,sd.trans s2,k,I,?_⟩⟩⟩
    ·have L:i=0\/i=1:=by omega
     rcases L with rfl | rfl
     ·left;simp[aS]
     ·obtain⟨j,c,rfl⟩:∃j c,ps=[j,c]:=by
       match ps,h2,(show 1<ps.length by omega) with
       | [j,c],_,_=>exact⟨j,c,rfl⟩
      have B:=(Z j q0B).1;rcases h7 j c rfl with h | h
      ·left
       have:=o.sm j B.rm B.cm h;have e1:aS (CN b) (List.take 1 [j,c])=CN b j:=by show 1*CN b j=_;rw[Nat.one_mul]
       rw[e1];omega
      ·right
       have:CN b c<2 ^ 64:=o.sm c T.rm T.cm h;show _<((CN b c:Nat):Int)/\((CN b c:Nat):Int)<_;omega
    ·rw[u];push_cast;rfl
   ·rw[q06 ⋯]
    refine⟨sd,k,mm,?_⟩;rw[u,show aS (CN b) (ps.take i)=0 by omega,Nat.zero_mul]
  ·rintro σ p ⟨sd,_,mm,y,rfl⟩
   refine h1 _ _ ?_;ext;rw[My,O,M'];exact q p sd mm
abbrev cw:Stmt:=fG 41 3
theorem qS:az ["self","row","numbers","size","steps","number","rows","many"] ["self","row"] (am cw):=by walk_at "c"
theorem j6{f CT yaa:Addr}{n:Nat}{t1:Tok}(F:cE K "reckoned" "TreeRows.reckoned" cw f fd)(nb:NB mg)(yai:mg "MOST"=some (.int 6 t1))(ct:fY K CT)(nt:av K CT "grammar"/\av K CT "steps"/\av K CT "totals")
  (yak:↑cW 1 "fewest" ["size"] (iP K)) (yan:cn P w K mg base (bI P w) 1 CG "numbers_of" ["self","name"] (cA R CG yaa)) (yad:↑cn 1 CG "rule" ["self","k"] (cr R CG)) (yap:↑qb 3 "part_rows" (mi R))
  (ydO:cn P w K mg base (bI P w) (4*n+5) CT "many_together" ["self","rows"] (cQ R CG CT n)) :
  aY P w K mg base (bI P w) (4*n+6) f fd ["self","row"] (fh R CG CT yaa (n+1)):=by
 have sc:=qS;walk_at "x"
 ·obtain⟨a,dx,g,dg,d1,d2,b,sg,st,as,k,m,p,rfl,_⟩:=h;rfl
 ·obtain⟨a,dx,g,dg,d1,d2,b,sg,st,as,k,m,p,rfl,D,hb,cs⟩:=h
  have hu:=hr.units;refine⟨_,(af (q01 2 sc.nd (bV yan (hr.mono ⋯) (bo λ_ _ _ h=>h) (bN (al 0) rfl) (aa (au ar (al 1) ai (λ_ _=>rfl)) ac)))
   (af (q01 3 sc.nd (cJ FH (al 1) (cP ai) (cP ai)))
   (af (bp (PW.pt (fm (aH (br.m0 jP) (ax (BB rfl) rfl nb.max HS (aa (al 3) ac)) (dz (v:=.int 6) rfl yai ⟨_,rfl⟩) (aL _)) (fB (aH (br.m0 pC) (au ar (al 1) ai (λ_ _=>rfl)) (aF (CX:=bI P w) yak.lift (hr.mono ⋯) rfl bj (aa (al 3) ac)) (aL _)))))
   (aj (aG (bz ac)))
   aN)
   (af (q01 4 sc.nd (bz ac))
   (af (bL PassesOwn.leaving rfl (cG (al 2)) (q02 5 sc.nd)
   (aj (bL PassesOwn.leaving rfl (cG (AC yap (hr.mono ⋯) aR (bV yad (hr.mono ⋯) aR (bN (al 0) rfl) (aa (al 5) ac)) (aa (au ar (al 1) ai (λ_ _=>rfl)) (aa (au ar (al 1) ai (λ_ _=>rfl)) (aa (au ar (al 1) ai (λ_ _=>rfl)) ac))))) (q02 6 sc.nd)
   (af (q01 7 sc.nd (bV ydO (hr.mono ⋯) (bo λ_ _ _ h=>h) (al 0) (aa (al 6) ac)))
   (aj (bp (aH (br.m0 jP) (al 7) ai (aL _))
   (aj (bF (q03 (al 4) (aa (aQ (aa (al 5) (aa (al 6) (aa (al 7) ac)))) ac))))
   aN))))))
   (aj (aG (al 4)))))))),?_⟩
  symm;obtain⟨lk,pn_,tt,h8,_⟩:=id D.gr;refine⟨CT,dx,_,D.at_,ct.cl,nt.1,_,rfl,g,rfl,dg,_,h8,rfl,_,aV.of hb,_,rfl,g,dg,sg,st,as,k,tx p.1,rfl,D.gr,?_,?_⟩
  rotate_left
  ·intro a1
   rcases cs with⟨dp,_⟩ | ⟨_,nn,ex⟩
   ·obtain⟨y,hy,e⟩:=Nf.mp dp.nm
    rw[<- e,(Ar hy).1]at a1;cases a1
   ·exact ex
  intro ns c4 l1 H1 hl1 f4 s1;rcases cs with⟨dp,_,pn,q⟩ | ⟨_,nn,ex⟩
  rotate_left
  ·rw[pN nn]at c4
   cases c4
  obtain⟨y,hy,ey⟩:=Nf.mp dp.nm;have e4:ns=bS (tx p.1) k:=by
   have:=(Ar hy).1;rw[ey,c4]at this;exact q0P this
  subst e4;have h7:∀i∈bS (tx p.1) k,_:=λi hi=>fJ hi;have hixl:=ua (tx p.1) k;have m6:=D.m6;have a4:=dp.r1;have drm:=dp.rm;have a5:=dp.c1;have dcm:=dp.cm;have dk:=dp.k16;refine h1 _ _ ?_;grind;refine⟨_,aV.of (s1 _ _ hb),λps H2 G s2=>h1 _ _ ?_⟩;clear h1;have G:aV K H2 ps [V.int (p.2.1:Int),V.int (p.2.2.1:Int)]:=G;have S:=s1.trans s2;symm;refine⟨_,_,G,?_⟩;rw[q06 (by split<;>omega)];refine⟨_,aV.of (S _ _ hb),_,rfl,ps,p.2.1,p.2.2.1,rfl,G,⋯,⋯,_,rfl,_,rfl,?_⟩
  by_cases O:p.2.2.2<fw p.2.1 p.2.2.1
  ·rw[q07 O]
   exact⟨MV _,λl hl=>q l _ (ck.of (S.trans (ae hl))) (D.up (S.trans (ae hl))).mm (by unfold aZ;rw[q07 O];exact cF.nil (S.free hl) ad)⟩
  rw[q06 O];refine h1 _ _ ?_;clear h1;have k1:1<=p.2.2.2:=by have:=bR a4 a5;omega
  symm;refine⟨MV _,λC a3=>h1 _ _ ?_⟩;clear h1;have f5:H C=none:=S.free a3;have g1:l1≠C:=λe=>by rw[<- e,s2 _ _ f4]at a3;cases a3
  have b1:=S.trans (ae (o:=.lst []) a3);have e3:aC H2 C (.lst []) C=some (.lst []):=ad;have d3:=ae (o:=.lst []) a3 _ _ (s2 _ _ f4);generalize aC H2 C (.lst [])=H3 at b1 e3 d3 ⊢;have g7:aZ k p=(bS (tx p.1) k).flatMap (cT k p):=by unfold aZ;rw[q06 O]
  symm;refine⟨⟨_,aT.of d3⟩,?_⟩;refine dh (xs:=yo (bS (tx p.1) k)) (λi σ H'=>ck d1 d2 H H'/\i<=(bS (tx p.1) k).length/\eG st k m H' d1 d2/\H' l1=some (.lst (yo (bS (tx p.1) k)))/\cF H H' C (((bS (tx p.1) k).take i).flatMap (cT k p))/\∃x y z,σ=[some (V.ref a),some (V.ref b),some (V.ref l1),some (V.ref ps),some (V.ref C),x,y,z]) ⟨.of b1,MV _,(D.up b1).mm,d3,cF.nil f5 e3,_,_,_,rfl⟩ (λi σ H' _ h=>aT.of h.2.2.2.1) ?_ ?_
  ·rintro i x σ H4 hx ⟨sd,hi,mm,i1,T,x1,y1,z1,rfl⟩
   have U:i<(bS (tx p.1) k).length:=by have:=(Mw.mp hx).1;rw[yo,My]at this;exact this
   rw[yo,MA,Mv U]at hx;cases hx;obtain⟨qr,a0,hqn⟩:=h7 _ (MF U);have b3:((bS (tx p.1) k).take (i+1)).flatMap (cT k p)=((bS (tx p.1) k).take i).flatMap (cT k p)++cT k p ((bS (tx p.1) k)[i]'U):=by
    rw[q0D,Mv U,List.flatMap_append];simp
   have e6:(((bS (tx p.1) k).take i).flatMap (cT k p)).length<=75*i:=by
    rw[kI];refine M5 (jn _ 75 _ λj hj=>?_) (by rw[Na];omega);obtain⟨qj,d7,_⟩:=fJ (q0F hj);obtain⟨j4,jc,_⟩:=D.gc qj (MB d7);unfold cT;rw[d7];exact M5 (List.length_filterMap_le _ _) (jw j4 jc a4 a5 ⋯ ⋯ dk)
   generalize((bS (tx p.1) k).take i).flatMap (cT k p)=ms at T b3 e6;generalize(bS (tx p.1) k)[i]'U=num at a0 b3;have a6:=D.next sd mm;obtain⟨lk4,pn4,tt4,h9,hk4,f3,_⟩:=id a6.gr;have e7:num<as.length:=by rw[f3.1];exact(Mw.mp a0).1
   have c2:qr∈k:=MB a0;obtain⟨q4,qc,f6⟩:=D.gc qr c2;have g8:=f3.2 num _ qr (Mv e7) a0;have i0:=(D.kp sd).tup hb;ext;refine⟨CT,dx,_,a6.at_,ct.cl,nt.1,_,rfl,g,rfl,dg,_,h9,rfl,g,dg,sg,st,as,k,num,as[num],rfl,a6.gr,Mv e7,?_⟩;refine FR i0 q4 g8 a4 ⋯ a5 ⋯ dk k1 qc f6 (D.gt qr c2) λl2 H5 h5 e9 s5=>?_;have f0:cT k p num=(bT qr p.2.1 p.2.2.1 p.2.2.2).filterMap λps=>if 0<aS (CN k) ps then some (num,ps,aS (CN k) ps) else none:=by unfold cT;rw[a0]
   have d8:=jw q4 qc a4 a5 (by omega:p.2.1<=6) (by omega:p.2.2.1<=6) dk;have e0:∀ps∈bT qr p.2.1 p.2.2.1 p.2.2.2,(∀p'∈ps,sM st k m p'/\0<n/\p'.2.2.2<(n:Int))/\ps.length<=2/\∀p1 p2,ps=[p1,p2]->p1.2.2.2<=7\/p2.2.2.2<=7:=λps G=>by
    refine⟨λp' h3=>?_,?_⟩
    ·obtain⟨d',lt'⟩:=dp.part D.gc c2 k1 G h3
     exact⟨d',by push_cast at pn;omega,by push_cast at pn;omega⟩
    ·rcases dA q4 a4 a5 G with rfl | ⟨p',rfl,_⟩ | ⟨_,z,f,sz,f1,f2,rfl⟩
     ·exact⟨by simp,λp1 p2 e=>by cases e⟩
     ·exact⟨by simp,λp1 p2 e=>by cases e⟩
     ·refine⟨by simp,λp1 p2 e=>?_⟩
      cases e;show f<=7\/p.2.2.2-qr.2.c-f<=7;omega
   have e8:=e9;change fV H4 H5 l2 (bT qr p.2.1 p.2.2.1 p.2.2.2) at e8;clear e9;obtain⟨r,d5,d6,b4⟩:=e8;generalize bT qr p.2.1 p.2.2.1 p.2.2.2=pss at f0 d8 e0 d6 b4;have a2:∃xs,H4 C=some (.lst xs):=let ⟨_,ts,h,_⟩:=T;⟨_,h⟩
   have g0:l2≠C:=λe=>by obtain⟨xs,h⟩:=a2;rw[<- e,h5]at h;cases h
   refine⟨l2,rfl,⟨_,aT.of d5⟩,?_⟩;refine dh (xs:=r.map V.ref) (λj σ H'=>ck d1 d2 H H'/\j<=r.length/\eG st k m H' d1 d2/\H' l1=some (.lst (yo (bS (tx p.1) k)))/\H' l2=some (.lst (r.map V.ref))/\(∀(i:Nat) a ps,r[i]?=some a->pss[i]?=some ps->sK H' a ps)/\cF H H' C (ms++(pss.take j).filterMap λps=>if 0<aS (CN k) ps then some (num,ps,aS (CN k) ps) else none)/\∃y z,σ=[some (V.ref a),some (V.ref b),some (V.ref l1),some (V.ref ps),some (V.ref C),some (V.int (num:Int)),y,z]) ⟨sd.trans (.of s5),MV _,(a6.up s5).mm,s5 _ _ i1,d5,λi a ps e1 e2=>(b4 i a ps e1 e2).2,by rw[No];simpa using T.kp (.of s5),_,_,rfl⟩ (λj σ H' _ h=>aT.of h.2.2.2.2.1) ?_ ?_
   ·rintro j x σ H6 hx ⟨Y,hj,b2,a8,c0,M,J,y2,z2,rfl⟩
    have B:j<r.length:=by have:=(Mw.mp hx).1;rwa [My]at this
    rw[MA,Mv B]at hx;cases hx;have c3:pss[j]?=some (pss[j]'⋯):=Mv ⋯;have d0:=M j _ _ (Mv B) c3;obtain⟨f9,f8,f7⟩:=e0 _ (MF (show j<pss.length by omega));have e5:=λi a ps e1 e2=>(b4 i a ps e1 e2).1;have a9:=D.next Y b2;have hfl:((pss.take j).filterMap λps=>if 0<aS (CN k) ps then some (num,ps,aS (CN k) ps) else none).length<=j:=M5 (List.length_filterMap_le _ _) (by rw[Na];omega);have L:((pss.take (j+1)).filterMap λps=>if 0<aS (CN k) ps then some (num,ps,aS (CN k) ps) else none)=((pss.take j).filterMap λps=>if 0<aS (CN k) ps then some (num,ps,aS (CN k) ps) else none)++(if 0<aS (CN k) (pss[j]'⋯) then[(num,pss[j]'⋯,aS (CN k) (pss[j]'⋯))] else[]):=by
     rw[q0D,c3,List.filterMap_append]
     congr 1
     show List.filterMap _ [_]=_
     by_cases h0:0<aS (CN k) (pss[j]'⋯)<;>simp[h0]
    symm;refine⟨dx,_,a9.at_,rfl,a,dx,g,dg,d1,d2,_,sg,st,as,k,m,_,rfl,a9,d0,f9,f8,f7,λH7 b0 d4=>h1 _ _ ?_⟩;clear h1;generalize hmany:aS (CN k) (pss[j]'⋯)=many at L;generalize hpsj:pss[j]'⋯=psj at L d0;have u:=a9.kp b0;have I:=J.kp u;ext
    by_cases h0:0<many
    ·rw[q07 ⋯]
     obtain⟨xs7,Z⟩:∃xs,H7 C=some (.lst xs):=let ⟨_,ts,h,_⟩:=I;⟨_,h⟩
     have g5:=I.len Z;have n24:=D.n24;refine⟨.inl ⟨rfl,_,aT.of Z⟩,ao nofun,λp1 h2=>?_⟩;have t1:=ae (o:=.tup [V.int (num:Int),V.ref r[j],V.int (many:Int)]) h2;have e1:aC H7 p1 (.tup [V.int (num:Int),V.ref r[j],V.int (many:Int)]) p1=some (.tup [V.int (num:Int),V.ref r[j],V.int (many:Int)]):=ad;generalize aC H7 p1 (.tup [V.int (num:Int),V.ref r[j],V.int (many:Int)])=H8 at t1 e1 ⊢;have a7:=t1 _ _ Z;obtain⟨m1,m2,c9,c6,h4,g6⟩:=d4;have g3:d1≠C:=λe=>by rw[e,Z]at c9;cases c9
     have g2:d2≠C:=λe=>by rw[e,Z]at c6;cases c6
     have hz:=(e5 j _ _ (Mv B) c3);have g4:r[j]≠C:=λe=>by
      obtain⟨xs,h⟩:=a2;rw[e,h]at hz;cases hz.1
     refine⟨_,a7,by rw[g5,MT];exact bf ⋯,?_,B,⟨m1,m2,by rw[aq g3];exact t1 _ _ c9,by rw[aq g2];exact t1 _ _ c6,h4,(g6.kp (.of t1)).kz (wN.put a7)⟩,by rw[aq g1];exact t1 _ _ (u.lst a8),by rw[aq g0];exact t1 _ _ (u.lst c0),λi a ps x1 x2=>(((M i a ps x1 x2).kp u).up t1).put ?_ ⟨_,a7⟩,?_⟩
     ·intro x o n1 n2 e
      rw[aq (λz=>by rw[z,f5]at e;cases e)];exact t1 _ _ (b0 x o n1 n2 (Y x o n1 n2 e))
     ·intro z
      have hz:=(e5 i a ps x1 x2).1;obtain⟨xs,h⟩:=a2;rw[z,h]at hz;cases hz
     ·rw[L,q07 h0,<- M9]
      exact(I.kp (.of t1)).app (x:=(num,psj,many)) a7 e1 ((d0.kp u).up t1) ⟨D.fresh sd mm hz.1,g4⟩
    ·rw[q06 ⋯]
     refine⟨Y.trans b0,B,d4,u.lst a8,u.lst c0,λi a ps x1 x2=>(M i a ps x1 x2).kp u,?_⟩;rw[L,q06 h0,M8];exact I
   ·rintro σ H6 ⟨Y,_,b2,a8,c0,M,J,y2,z2,rfl⟩
    refine⟨Y,U,b2,a8,?_,_,_,_,rfl⟩;rw[My,d6,M']at J;rw[b3,f0];exact J
  ·rintro σ H4 ⟨sd,_,mm,_,T,x1,y1,z1,rfl⟩
   refine h1 _ _ ?_;ext;have h6:(yo (bS (tx p.1) k)).length=(bS (tx p.1) k).length:=by rw[yo,My]
   rw[h6,M',<- g7]at T;exact q C H4 sd mm T
theorem BA{z:Str}{k:List dm}(h:(Sum.inr z::k)∈Bv zs):z∈zs:=by
 unfold Bv at h;obtain⟨y,a,h⟩:=List.mem_flatMap.mp h;obtain⟨r,_,h⟩:=List.mem_flatMap.mp h;obtain⟨c,_,h⟩:=List.mem_flatMap.mp h;obtain⟨j,_,e⟩:=Nf.mp h;have:=(List.cons.inj e).1;cases this;exact a
theorem rH.bad{st:Nu}{m1:List (List dm×V)}{p:TR}(h:rH st rs m m1 m2)(hn:tx p.1∉(bt (tx st) rs).map (·.1)):cz m1 (dH p)=none:=by
 cases e:cz m1 (dH p) with
 |none=>rfl
 |some v=>exact q0N (BA (h.k1 _ (GD e))) hn
theorem ll{kvs:List (List dm×V)}(hn:(kvs.map (·.1)).Nodup):((cN kvs k v).map (·.1)).Nodup/\∀x,x∈(cN kvs k v).map (·.1)->x=k\/x∈kvs.map (·.1):=by
 cases e:cz kvs k with
 |none=>exact⟨Fz v hn e,λx b=>by
   rw[rp v e,MJ,MK]at b;rcases b with h | h
   ·exact .inr h
   ·exact .inl (by simpa using h)⟩
 |some u=>
  have g:(cN kvs k v).map (·.1)=kvs.map (·.1):=by
   unfold cN;have c:(kvs.any λa=>decide (a.1=k))=true:=by rw[fT,e];rfl
   rw[q07 c,ML];refine q0H λa _=>?_;show(if a.1=k then(a.1,v) else a).1=a.1
   split<;>rfl
  rw[g];exact⟨hn,λx b=>.inr b⟩
theorem rH.put{st:Nu}{rs:Yaa}{m1:List (List dm×V)}{p:TR}{v:V}(h:rH st rs m m1 m2)(d:sM st rs m p)(h6:m<=6):rH st rs m (cN m1 (dH p) v) (cN m2 (dH p) (.int (CN rs p:Nat))):=by
 have g:=EA d h6;refine⟨(ll h.n1).1,(ll h.n2).1,λk b=>?_,λk b=>?_,λc a=>?_⟩
 ·rcases(ll h.n1).2 k b with e | e
  ·rw[e];exact g
  ·exact h.k1 k e
 ·rcases(ll h.n2).2 k b with e | e
  ·rw[e];exact g
  ·exact h.k2 k e
 ·rw[nc]at a ⊢
  by_cases e:dH c=dH p
  ·rw[q07 e,w6 e]
  ·rw[q06 e]at a ⊢
   exact h.ok c a
theorem xz:∀ms:List Nat,(ms.map fun(x:Nat)=>(x:Int)).sum=((ms.sum:Nat):Int)
 | []=>rfl
 |x::ms=>by rw[M4,List.sum_cons,List.sum_cons,xz ms];push_cast;rfl
abbrev cv:Stmt:=fG 41 2
theorem sN:az ["self","row","steps"] ["self","row"] (am cv):=by walk_at "c"
theorem kP{f CT yaa:Addr}{n:Nat}(F:cE K "steps_of" "TreeRows.steps_of" cv f fd)(nb:NB mg)(yaj:mg "sum"=none)(ct:fY K CT)(nt:av K CT "grammar"/\av K CT "steps"/\av K CT "totals")
  (ycK:cn P w K mg base (bI P w) (4*n+6) CT "reckoned" ["self","row"] (fh R CG CT yaa (n+1))) :
  aY P w K mg base (bI P w) (4*n+7) f fd ["self","row"] (bX R CG CT yaa (n+1)):=by
 have sc:=sN;walk_at "x"
 ·obtain⟨a,dx,g,dg,u,C,b,sg,st,as,j,m,p,rfl,_⟩:=h;rfl
 ·obtain⟨a,dx,g,dg,u,C,b,sg,st,as,j,m,p,rfl,c,hb,cs⟩:=h
  have hu:=hr.units;refine⟨_,(af (bp (D3 (uo (Nc (Nh (by decide:1<=64) _) hu) (al 1) (bN (al 0) rfl)) (by with_unfolding_all rfl))
   (af (q01 2 sc.nd (bV ycK (hr.mono ⋯) (bo λ_ _ _ h=>h) (al 0) (aa (al 1) ac)))
   (af (Hi (Ax (Nc (Nh (by decide:1<=64) _) hu) (bN (al 0) rfl) (al 1) (al 2) rfl))
   (aj (Ax (Nc (Nh (by decide:1<=64) _) hu) (bN (al 0) rfl) (al 1) (ax (li rfl) rfl yaj uU (aa (b7 ["number","rows","many"] [] rfl (bB.of (by kernel_rfl)) (by kernel_rfl) (cG (al 2))
    (λ_ _ _ _=>(qq (K:=K) (n:=3) rfl rfl (aU (aD (i:=0) (by show(["number","rows","many"]:List Str).Nodup;decide +kernel) rfl (Or.inl rfl)) (aU (aD (i:=1) (by show(["number","rows","many"]:List Str).Nodup;decide +kernel) rfl (Or.inl rfl)) (aU (aD (i:=2) (by show(["number","rows","many"]:List Str).Nodup;decide +kernel) rfl (Or.inl rfl)) cY))))) (λ_ _ _ _=>bK) (λ_ _ _ _=>(al 2))) ac)) rfl))))
   aN)
   (aj (aG (wg (Nc (Nh (by decide:1<=64) _) hu) (bN (al 0) rfl) (al 1) (λ_ _=>rfl))))),?_⟩
  obtain⟨m1,m2,b3,a2,b1,e0⟩:=id c.mm;have a3:H b=some (.tup ((dH p).map kV)):=hb;refine ak λN1 h1=>?_;refine u5 λtb1 tb2 e5 e3=>?_;ext;refine⟨CT,dx,_,c.at_,ct.cl,nt.2.1,_,rfl,u,rfl,cz m1 (dH p),p_.t b3 a3,?_⟩;have c3:∀J,(∃l,p_ J u (V.ref b) (some (V.ref l))/\kb J l (aZ j p))->ck u C H J->eG st j m J u C->sM st j m p->(∃m2,J C=some (.dT m2)/\cz m2 (dH p)=some (.int (CN j p:Nat)))->∀x,N1 [some (V.ref a),some (V.ref b),x] J:=λJ ⟨l,hv,S⟩ sd mm T a2 x=>by
   refine h1 _ _ ?_;ext;refine⟨CT,dx,_,(c.kp sd).ins c.at_,ct.cl,nt.2.1,_,rfl,u,rfl,_,hv,?_⟩;rcases cs with⟨_,_,_,q⟩ | ⟨_,nn,_⟩
   ·exact q l J sd mm a2 S
   ·exact q0N T.nm nn
  cases hv:cz m1 (dH p) with
  |some v=>
   rw[q06 (by simp)];rw[e3];rcases cs with⟨T,n0,pn,q⟩ | ⟨_,nn,ex⟩
   ·ext
    obtain⟨l,rfl,S⟩:=e0 p v hv;refine c3 H ⟨l,by rw[<- hv];exact p_.t b3 a3,S⟩ (λ_ _ _ _ e=>e) c.mm T ⟨m2,a2,b1.ok p (by rw[hv];rfl)⟩ _
   ·rw[b1.bad nn]at hv;cases hv
  |none=>
   rw[q07 (by simp)];rw[e5];ac_nf;refine⟨dx,_,c.at_,rfl,a,dx,g,dg,u,C,b,sg,st,as,j,m,p,rfl,c,hb,?_⟩;rcases cs with⟨T,n0,pn,q⟩ | ⟨_,nn,ex⟩
   rotate_left
   ·exact .inr ⟨Nat.succ_pos _,nn,ex⟩
   refine .inl ⟨T,n0,pn,λl I a1 a5 d8=>h2 _ _ ?_⟩;clear h2;have c6:=c.next a1 a5;obtain⟨r,M,Z,b2,Y,b0⟩:=id a5;have d3:=c.kp a1;have e2:I b=some (.tup ((dH p).map kV)):=d3.tup hb;have c0:=Y.len c.nz;ac_nf;have a7:Kp I (aC I u (.dT (cN r (dH p) (V.ref l)))):=Kp.put Z;obtain⟨ls,b4,a0,S⟩:=(d8.kp a7).known;refine⟨CT,dx,_,c6.at_,ct.cl,nt.2.1,_,rfl,u,rfl,_,BH.t Z e2 c0.1,ls,b4,λos=>h2 _ _ ?_⟩;clear h2;have S:=S os;have a6:wN I (cZ (aC I u (.dT (cN r (dH p) (V.ref l)))) ls os):=a7.z.trans wN.frz;have a4:cZ (aC I u (.dT (cN r (dH p) (V.ref l)))) ls os u=some (.dT (cN r (dH p) (V.ref l))):=gI ad (.inr λxs z=>by cases z);have G:cZ (aC I u (.dT (cN r (dH p) (V.ref l)))) ls os C=some (.dT M):=gI (by rw[aq c.ne.symm];exact b2) (.inr λxs z=>by cases z);have L:ck u C H (cZ (aC I u (.dT (cN r (dH p) (V.ref l)))) ls os):=λx o n1 n2 e=>gI (by rw[aq n1];exact a1 x o n1 n2 e) (.inl λhx=>by rw[a0 x hx]at e;cases e);generalize cZ (aC I u (.dT (cN r (dH p) (V.ref l)))) ls os=H2 at a6 a4 G L S ⊢;clear b4 a0;have c1:=(c.kp L).ins c.at_;have O:=(c.kp L).tup a3;obtain⟨U,o,a8,htl,d7⟩:=id S;have hsl:=o8 c.gc (T.row c.m6) c.n24;have a9:=oz c.gc (T.row c.m6);ext;have d6:(U.zip (aZ j p)).map (·.1)=U:=List.map_fst_zip ⋯;have d5:(U.zip (aZ j p)).map (·.2)=aZ j p:=List.map_snd_zip ⋯;have d4:(U.zip (aZ j p)).map (λz=>V.ref z.1)=U.map V.ref:=by rw[<- q0O (List.map V.ref) d6,ML];rfl
   refine⟨⟨_,.inl (.inr ⟨o,a8⟩)⟩,?_⟩;refine gL (as:=U.zip (aZ j p)) (emb:=λz=>V.ref z.1) (f:=λz=>some (V.int (z.2.2.2:Nat))) (λσ=>∃x y z,σ=[x,y,z]) ⟨_,_,_,rfl⟩ (λJ s'=>.inl (.inr ⟨o,by rw[d4];exact s' _ _ a8⟩)) (by rw[q0K];omega) ?_ ?_
   ·rintro i z hz σ J N1' N0 ⟨x,y,w,rfl⟩ sm k1 k0
    have h1:U[i]?=some z.1/\(aZ j p)[i]?=some z.2:=List.getElem?_zip_eq_some.mp hz;obtain⟨rl,e,_⟩:=d7 i z.1 z.2 h1.1 h1.2;ext;exact⟨_,aV.of (sm _ _ e),rfl,_,_,rfl,_,_,rfl,_,_,rfl,rfl,k1 _ _ _ rfl sm ⟨_,_,_,rfl⟩⟩
   intro H3 s3 lc e1;rw[jD];have c4:(U.zip (aZ j p)).map (λz=>V.int (z.2.2.2:Nat))=(((aZ j p).map λs=>s.2.2).map fun(x:Nat)=>(x:Int)).map V.int:=by
    conv=>rhs;rw[<- d5]
    rw[ML,ML,ML];rfl
   rw[c4];generalize(aZ j p).map (λs=>s.2.2)=ms at a9;have B:=s3.trans (ae (o:=.lst ((ms.map fun(x:Nat)=>(x:Int)).map V.int)) e1);have e4:aC H3 lc (.lst ((ms.map fun(x:Nat)=>(x:Int)).map V.int)) lc=some (.lst ((ms.map fun(x:Nat)=>(x:Int)).map V.int)):=ad;generalize aC H3 lc (.lst ((ms.map fun(x:Nat)=>(x:Int)).map V.int))=H4 at B e4 ⊢;refine⟨_,aT.of e4,CT,dx,_,B _ _ c1,ct.cl,nt.2.2,_,rfl,C,rfl,_,BH.t (B _ _ G) (B _ _ O) c0.2,?_⟩;rw[xz,a9];have c9:b≠C:=λe=>by rw[e,G]at O;cases O
   have d0:wN I (aC H4 C (.dT (cN M (dH p) (V.int (CN j p:Nat))))):=(a6.trans (Kp.of B).z).trans (Kp.put (B _ _ G)).z;have c2:kb (aC H4 C (.dT (cN M (dH p) (V.int (CN j p:Nat))))) l (aZ j p):=(S.kz (Kp.of B).z).kz (Kp.put (B _ _ G)).z;refine c3 _ ⟨l,?_,c2⟩ ((L.trans (.of B)).trans .put2) ⟨_,_,?_,ad,Y.put (v:=V.ref l) T c.m6,?_⟩ T ⟨_,ad,by rw[nc,q07 rfl]⟩ _
   ·have:=p_.t (H:=aC H4 C (.dT (cN M (dH p) (V.int (CN j p:Nat))))) (a:=u) (b:=b) (kvs:=cN r (dH p) (V.ref l)) (k:=dH p) (by rw[aq c.ne];exact B _ _ a4) (by rw[aq c9];exact B _ _ O)
    rw[nc,q07 rfl]at this;exact this
   ·rw[aq c.ne];exact B _ _ a4
   ·intro p' v' D
    rw[nc]at D
    by_cases e:dH p'=dH p
    ·rw[q07 e]at D
     cases D;rw[w6 e];exact⟨l,rfl,c2⟩
    ·rw[q06 e]at D
     exact b0.kz d0 p' v' D
abbrev cq:Stmt:=fG 41 1
theorem l_:az ["self","row"] ["self","row"] (am cq):=by walk_at "c"
theorem sV{f CT yaa:Addr}{n:Nat}(F:cE K "many_in" "TreeRows.many_in" cq f fd)(nb:NB mg)(ct:fY K CT)(nt:av K CT "grammar"/\av K CT "steps"/\av K CT "totals")
  (yal:cn P w K mg base (bI P w) (4*n+7) CT "steps_of" ["self","row"] (bX R CG CT yaa (n+1))) :
  aY P w K mg base (bI P w) (4*n+8) f fd ["self","row"] (bA R CG CT yaa (n+1)):=by
 have sc:=l_;walk_at "x"
 ·obtain⟨a,j,g,C,D,r,b,x,u,G,y,m,p,rfl,_⟩:=h;rfl
 ·obtain⟨a,j,g,C,D,r,b,x,u,G,y,m,p,rfl,e,B,U⟩:=h
  have O:=hr.units;refine⟨_,(af (bF (bV yal (hr.mono ⋯) (bo λ_ _ _ h=>h) (al 0) (aa (al 1) ac)))
   (aj (aG (wg (Nc (Nh (by decide:1<=64) _) O) (bN (al 0) rfl) (al 1) (λ_ _=>rfl))))),?_⟩
  symm;refine⟨j,_,e.at_,rfl,a,j,g,C,D,r,b,x,u,G,y,m,p,rfl,e,B,?_⟩;rcases U with⟨T,L,I,q⟩ | ⟨_,J,S⟩
  rotate_left
  ·exact .inr ⟨Nat.succ_pos _,J,S⟩
  refine .inl ⟨T,L,I,λv Y c l ⟨m2,o,M⟩ _=>h1 _ _ ?_⟩;ext;refine⟨CT,j,_,(e.kp c).ins e.at_,ct.cl,nt.2.2,_,rfl,r,rfl,_,?_,q Y c l⟩;have:=p_.t (k:=dH p) o ((e.kp c).tup B);rw[M]at this;exact this
theorem B1{f CT yaa:Addr}(F:cE K "many_in" "TreeRows.many_in" cq f fd):aY P w K mg base (bI P w) 4 f fd ["self","row"] (bA R CG CT yaa 0):=by
 have c:∀{vs:List V} {H:Hp} {Q:VK} {E:XK},¬ bA R CG CT yaa 0 vs H Q E:=λh=>by
  obtain⟨a,dx,g,dg,d1,d2,b,sg,st,as,rs,m,p,_,_,_,⟨_,e,_⟩ | ⟨e,_⟩⟩:=h<;>exact q0N e ⋯
 exact F.okX (k:=3) (sp:=bA R CG CT yaa 0) l_ (λvs H Q E h=>q0N h c) (λcdv A outer s H vs Q E hr h=>q0N h c)
theorem j7{CT yaa:Addr}{fd1 fd2 fd3 fd4:NA}{t1:Tok}(F1:cE K "many_in" "TreeRows.many_in" cq f1 fd1)(F2:cE K "steps_of" "TreeRows.steps_of" cv f2 fd2)(F3:cE K "reckoned" "TreeRows.reckoned" cw f3 fd3)(F4:cE K "many_together" "TreeRows.many_together" bx f4 fd4)
  (nb:NB mg) (yaj:mg "sum"=none) (yai:mg "MOST"=some (.int 6 t1)) (ct:fY K CT) (nt:av K CT "grammar"/\av K CT "steps"/\av K CT "totals") (me1:c_ K CT "many_in" f1) (me2:c_ K CT "steps_of" f2) (me3:c_ K CT "reckoned" f3) (me4:c_ K CT "many_together" f4)
  (b1:bU K fd1 ["self","row"] []) (b2:bU K fd2 ["self","row"] []) (b3:bU K fd3 ["self","row"] []) (b4:bU K fd4 ["self","rows"] [])
  (yak:↑cW 1 "fewest" ["size"] (iP K)) (yan:cn P w K mg base (bI P w) 1 CG "numbers_of" ["self","name"] (cA R CG yaa)) (yad:↑cn 1 CG "rule" ["self","k"] (cr R CG)) (yap:↑qb 3 "part_rows" (mi R)) :
  ∀n,cn P w K mg base (bI P w) (4*n+4) CT "many_in" ["self","row"] (bA R CG CT yaa n)
 |0=>⟨f1,fd1,B1 F1,ct.cl,me1,b1⟩
 |n+1=>by
  have ih:=j7 F1 F2 F3 F4 nb yaj yai ct nt me1 me2 me3 me4 b1 b2 b3 b4 yak yan yad yap n;have c4:cn P w K mg base (bI P w) (4*n+5) CT "many_together" ["self","rows"] (cQ R CG CT n):=⟨f4,fd4,gm F4 nb ih,ct.cl,me4,b4⟩;have c3:cn P w K mg base (bI P w) (4*n+6) CT "reckoned" ["self","row"] (fh R CG CT yaa (n+1)):=⟨f3,fd3,j6 F3 nb yai ct nt yak yan yad yap c4,ct.cl,me3,b3⟩;have c2:cn P w K mg base (bI P w) (4*n+7) CT "steps_of" ["self","row"] (bX R CG CT yaa (n+1)):=⟨f2,fd2,kP F2 nb yaj ct nt c3,ct.cl,me2,b2⟩;exact⟨f1,fd1,sV F1 nb ct nt c2,ct.cl,me1,b1⟩
abbrev iz:Stmt:=h_ 43
structure qV(st:Nu)(rs:Yaa)(m:Nat):Prop where
 gc:dw rs
 gt:∀q∈rs,0<=q.2.t
 sm:∀p:TR,p.2.1<=m->p.2.2.1<=m->p.2.2.2<=7->CN rs p<2 ^ 64
 m6:m<=6
 n24:rs.length<=24
 nz:(bt (tx st) rs).length<=100
inductive gK(R:RC)(CG CN_:Addr)(vs:List V)(H:Hp)(Q:VK)(E:XK):Prop
 |mk (g dg:Addr) (sg st:Nu) (as:Ny) (rs:Yaa) (m:Nat) (p:TR) (_:vs=[.ref g,.str (tx p.1),.int (p.2.1:Int),.int (p.2.2.1:Int),.int p.2.2.2]) (_:eJ R H CG dg g sg st as rs) (_:qV st rs m) (_:((sM st rs m p/\∀H',aE H H'->Q (.int (CN rs p:Nat)) H')\/(tx p.1∉(bt (tx st) rs).map (·.1)/\∀H',aE H H'->E (.ref CN_) none H')))
theorem se:az ["grammar","name","rows","columns","cost"] ["grammar","name","rows","columns","cost"] (am iz):=by walk_at "c"
theorem qU{f CT yaa:Addr}(F:cE K "count_trees" "count_trees" iz f fd)(nb:NB mg)(ct:fY K CT)(nt:av K CT "grammar"/\av K CT "steps"/\av K CT "totals")
  (yat:↑mw 1 "TreeRows" CT ["self","grammar"] (hU K)) (yag:cn P w K mg base (bI P w) 72 CT "many_in" ["self","row"] (bA R CG CT yaa 17)) :
  aY P w K mg base (bI P w) 73 f fd ["grammar","name","rows","columns","cost"] (gK R CG yaa):=by
 have sc:=se;walk_at "x"
 ·obtain⟨g,M,r,n,O,B,m,p,rfl,_⟩:=h;rfl
 ·obtain⟨g,M,r,n,O,B,m,p,rfl,gr,ok,cs⟩:=h
  have hu:=hr.units;refine⟨_,(aj (aG (bV yag (hr.mono nofun) (bo λ_ _ _ h=>h) (ib yat (hr.mono nofun) rfl aR (aa (al 0) ac)) (aa (aQ (aa (al 1) (aa (al 2) (aa (al 3) (aa (al 4) ac))))) ac)))),?_⟩;ext;intro x j S G D;have a:aE H (aC (aC H j (.own x)) x (.ins CT j [])):=(ae G).trans (ae (by rw[aq (Ne.symm D)];exact S));refine⟨x,CT,j,g,rfl,ad,ct.cl,nt,λZ Y H2 f1 f2 C T L J sx=>⟨rfl,j,_,T,rfl,ao nofun,λb hb=>?_⟩⟩;have s2:aE H H2:=λy u e=>sx y u (aK e S) (a y u e);have l:=ae (o:=.tup (ce p)) hb;have c:=s2.trans l;have te:hV R CG CT (aC H2 b (.tup (ce p))) x j g M Z Y r n O B m:=⟨l _ _ T,C,gr.up c,ok.gc,ok.gt,ok.sm,ok.m6,ok.n24,ok.nz,[],[],l _ _ L,l _ _ J,⟨List.nodup_nil,List.nodup_nil,(λk h=>nomatch h),(λk h=>nomatch h),(λp h=>by cases h)⟩,λp v h=>by cases h⟩;refine⟨x,j,g,M,Z,Y,b,r,n,O,B,m,p,rfl,te,ad,?_⟩;rcases cs with⟨U,q⟩ | ⟨nn,I⟩
  ·exact .inl ⟨U,nofun,by have:=U.k16;omega,λH4 sd mm=>q H4 λy u e=>sd y u (λz=>by rw[z,a.free f1]at e;cases e) (λz=>by rw[z,a.free f2]at e;cases e) (c y u e)⟩
  ·exact .inr ⟨nofun,nn,I _ c⟩
theorem zE{B:Nat}{f:TR->Nat}{q:Nat×RV}{r c:Nat}{k:Int}{ps:List TR}(h4:q.1<4)(hq:1<=q.2.c)(hr:1<=r)(hc:1<=c)(hk:1<=k)(h:ps∈bT q r c k)(hf:∀p∈ps,f p<=2 ^ (B*p.2.2.2.toNat)):aS f ps<=2 ^ (B*(k-1).toNat):=by
 have mono:∀{a b:Nat},a<=b->2 ^ (B*a)<=2 ^ (B*b):=λh=>Nat.pow_le_pow_right nofun (Nat.mul_le_mul_left _ h);rcases dA h4 hr hc h with rfl | ⟨p,rfl,e1,e2,e3⟩ | ⟨_,z,x,sz,f1,f2,rfl⟩
 ·exact Nat.one_le_two_pow
 ·have h1:=hf p q0B
  show 1*f p<=_;rw[Nat.one_mul];exact M5 h1 (mono ⋯)
 ·have g1:=bR sz.a sz.b
  have g2:=bR sz.d sz.e;have h1:=hf _ q0B;have h2:=hf _ (MN _ q0B);show 1*f _*f _<=_;rw[Nat.one_mul];refine M5 (Nat.mul_le_mul h1 h2) ?_;rw[<- Nat.pow_add,<- Nat.mul_add];exact mono (by show x.toNat+(k-q.2.c-x).toNat<=_;omega)
theorem ve(hg:dw rs){B L:Nat}{kx:Int}(hL:∀q∈rs,∀(r c:Nat) (k:Int),1<=r->r<=6->1<=c->c<=6->k<=kx->(bT q r c k).length<=L)(hB:rs.length*L<=2 ^ B):∀(f:Nat) (p:TR),p.2.1<=6->p.2.2.1<=6->p.2.2.2<=kx->cnt rs f p<=2 ^ (B*p.2.2.2.toNat)
 |0,_,_,_,_=>MV _
 |f+1,p,hr6,hc6,hk=>by
  unfold cnt
  split
  ·exact MV _
  ·rename_i hn
   have hr:1<=p.2.1:=by omega
   have b:1<=p.2.2.1:=by omega
   have u:1<=p.2.2.2:=by have:=bR hr b;omega
   refine M5 (jn _ (L*2 ^ (B*(p.2.2.2-1).toNat)) _ λq n=>?_) ?_
   ·obtain⟨m,l,_⟩:=hg q (ij n).1
    refine M5 (jn _ (2 ^ (B*(p.2.2.2-1).toNat)) _ λps a=>?_) ?_
    ·refine zE m l hr b u a λo j=>?_
     have g:=kr m l hr b a j;have:=g.rm;have:=g.cm;have:=g.lt;exact ve hg hL hB f o ⋯ ⋯ ⋯
    ·exact Nat.mul_le_mul (hL q (ij n).1 _ _ _ hr hr6 b hc6 hk) (MU _)
   ·have v:(cB p.1 rs).length<=rs.length:=List.length_filter_le _ _
    refine M5 (Nat.mul_le_mul v (MU _)) ?_;rw[<- Nat.mul_assoc];have e:B*p.2.2.2.toNat=B+B*(p.2.2.2-1).toNat:=by
     rw[show p.2.2.2.toNat=1+(p.2.2.2-1).toNat by omega,Nat.mul_add,Nat.mul_one]
    rw[e,Nat.pow_add];exact Nat.mul_le_mul hB (MU _)
theorem Gf(hg:dw rs)(h24:rs.length<=24){p:TR}(hr:p.2.1<=6)(hc:p.2.2.1<=6)(hk:p.2.2.2<=16):CN rs p<=2 ^ 176:=by
 have:=ve (B:=11) (L:=75) (kx:=16) hg (λq a r c k e b j g hk=>jw (hg q a).1 (hg q a).2.1 e j b g hk) (M5 (Nat.mul_le_mul_right 75 h24) nofun) 17 p hr hc hk;exact M5 this (Nat.pow_le_pow_right nofun ⋯)
theorem Gq{n:Nat}(h:n<=2 ^ 176):((n:Nat):Int).natAbs.log2<9000:=by
 rw[Int.natAbs_natCast]
 by_cases a:n=0
 ·subst a;decide
 ·exact(Nat.log2_lt a).mpr (Nc h (Nat.pow_lt_pow_right nofun nofun))
inductive cL(R:RC)(CG CT CN_ CU_:Addr)(n:Nat)(vs:List V)(H:Hp)(Q:VK)(E:XK):Prop
 |mk (a dx g dg d1 d2 b:Addr) (sg st:Nu) (as:Ny) (rs:Yaa) (m:Nat) (p:TR) (k:Int) (_:vs=[.ref a,.ref b,.int k]) (_:hV R CG CT H a dx g dg d1 d2 sg st as rs m) (_:H b=some (.tup (ce p))) (_:0<n) (_:((sM st rs m p/\p.2.2.2<(n:Int)/\(∀(j:Nat) t,k=(j:Int)->(RT rs p)[j]?=some t->∀v H',ck d1 d2 H H'->eG st rs m H' d1 d2->bg H' t.d v->Q v H')/\((k<0\/(CN rs p:Int)<=k)->∀H',ck d1 d2 H H'->eG st rs m H' d1 d2->E (.ref CU_) none H'))\/(tx p.1∉(bt (tx st) rs).map (·.1)/\E (.ref CN_) none H)))
inductive gQ(R:RC)(CG CT:Addr)(n:Nat)(vs:List V)(H:Hp)(Q:VK)(_E:XK):Prop
 |mk (a dx g dg d1 d2 l:Addr) (sg st:Nu) (as:Ny) (rs:Yaa) (m:Nat) (ps:List TR) (k:Nat) (ts:List bu) (_:vs=[.ref a,.ref l,.int (k:Int)]) (_:hV R CG CT H a dx g dg d1 d2 sg st as rs m) (_:Ia H l ps) (_:(∀p∈ps,sM st rs m p/\p.2.2.2<(n:Int))) (_:ps.length<=2) (_:(ps≠[]->0<n)) (_:(bE (RT rs) ps)[k]?=some ts) (_:∀x vs H',ck d1 d2 H H'->eG st rs m H' d1 d2->H' x=some (.tup vs)->aP H' (ts.map bu.d) vs->Q (.ref x) H')
def By(rs:Yaa)(k:Nat)(ps:List TR)(i:Nat):Nat:=(ps.reverse.take i).foldl (λk p=>k/CN rs p) k
theorem DI{ps:List TR}{i:Nat}{p:TR}(h:ps.reverse[i]?=some p):By rs k ps (i+1)=By rs k ps i/CN rs p:=by
 unfold By;rw[q0D,h,List.foldl_append];rfl
theorem r9(hg:dw rs){ps:List TR}{k:Nat}{ts:List bu}(ok:∀p∈ps,d9 p)(h2:ps.length<=2)(h:(bE (RT rs) ps)[k]?=some ts) :
  ts.length=ps.length/\∀(i:Nat) p,ps.reverse[i]?=some p->∃t,ts.reverse[i]?=some t/\(RT rs p)[By rs k ps i%CN rs p]?=some t:=by
 match ps,h2,h,ok with
 | [],_,h,_=>
  have:k=0/\ts=[]:=by
   cases k with
   |zero=>exact⟨rfl,by simpa[bE]using h.symm⟩
   |succ k=>simp[bE]at h
  obtain⟨rfl,rfl⟩:=this;exact⟨rfl,λi p e=>by simp at e⟩
 | [p],_,h,ok=>
  rw[iW]at h;obtain⟨t,l,rfl⟩:=MY.mp h;refine⟨rfl,λi a e=>?_⟩;have:i=0/\a=p:=by
   match i,e with
   |0,e=>exact⟨rfl,by simpa using e.symm⟩
   |i+1,e=>simp at e
  obtain⟨rfl,rfl⟩:=this;refine⟨t,rfl,?_⟩;show(RT rs a)[k%CN rs a]?=some t;rw[Nat.mod_eq_of_lt (by rw[<- b6 hg (ok _ (by simp))];exact(Mw.mp l).1)];exact l
 | [p1,p2],_,h,ok=>
  have l1:=b6 hg (ok p1 (by simp));have j:=b6 hg (ok p2 (by simp));have b:k<CN rs p1*CN rs p2:=by
   have:=(Mw.mp h).1;rw[fM (g:=CN rs) λp o=>b6 hg (ok p o)]at this
   simpa[aS]using this
  have c:0<CN rs p2:=by
   rcases Nat.eq_zero_or_pos (CN rs p2) with e | e
   ·rw[e]at b;simp at b
   ·exact e
  have q:k/CN rs p2<CN rs p1:=Nat.div_lt_of_lt_mul (by rw[Nat.mul_comm];exact b);have hm:=Nat.mod_lt k c;obtain⟨t1,n⟩:∃t,(RT rs p1)[k/CN rs p2]?=some t:=⟨_,Mv ⋯⟩;obtain⟨t2,m⟩:∃t,(RT rs p2)[k%CN rs p2]?=some t:=⟨_,Mv ⋯⟩;have:=tW (F:=RT rs) (p1:=p1) (p2:=p2) (k:=k) (t1:=t1) (t2:=t2) (by rw[j];exact n) (by rw[j];exact m);rw[this]at h;cases h;refine⟨rfl,λi a e=>?_⟩
  match i,e with
  |0,e=>
   have:a=p2:=by simpa using e.symm
   subst this;exact⟨t2,rfl,m⟩
  |1,e=>
   have:a=p1:=by simpa using e.symm
   subst this;refine⟨t1,rfl,?_⟩;show(RT rs a)[k/CN rs p2%CN rs a]?=some t1;rw[Nat.mod_eq_of_lt q];exact n
  |i+2,e=>simp at e
abbrev cK:Stmt:=fG 41 6
theorem rM:az ["self","rows","k","trees","row","many"] ["self","rows","k"] (am cK):=by walk_at "c"
theorem rn{f CT yaa yac:Addr}{lv:Nat}(hlv:72<=lv)(F:cE K "trees_in" "TreeRows.trees_in" cK f fd)(nb:NB mg)
  (yag:cn P w K mg base (bI P w) 72 CT "many_in" ["self","row"] (bA R CG CT yaa 17)) (yaW:cn P w K mg base (bI P w) lv CT "tree_in" ["self","row","k"] (cL R CG CT yaa yac n)) :
  aY P w K mg base (bI P w) (lv+1) f fd ["self","rows","k"] (gQ R CG CT n):=by
 have sc:=rM;walk_at "x"
 ·obtain⟨a,dx,g,dg,d1,d2,l,sg,st,as,c,m,ps,k,ts,rfl,_⟩:=h;rfl
 ·obtain⟨a,dx,g,dg,d1,d2,l,sg,st,as,c,m,ps,k,ts,rfl,u,hl,Z,b3,hn,b0,q⟩:=h
  have hu:=hr.units;refine⟨_,(af (q01 3 sc.nd (aQ ac))
   (af (bL PassesOwn.leaving rfl (Ae rfl nb.reversed (aa (al 1) ac)) (q02 4 sc.nd)
   (af (q01 5 sc.nd (bV yag (hr.mono ⋯) (bo λ_ _ _ h=>h) (al 0) (aa (al 4) ac)))
   (af (q01 3 sc.nd (aA d_ (aQ (aa (bV yaW (hr.mono ⋯) (bo λ_ _ _ h=>h) (al 0) (aa (al 4) (aa (aA (br.m1 bO) (al 2) (al 5)) ac))) ac)) (al 3)))
   (aj (q01 2 sc.nd (aA (br.m1 Fi) (al 2) (al 5)))))))
   (aj (aG (al 3))))),?_⟩
  symm;refine⟨MV _,λx0 a8=>h1 _ _ ?_⟩;clear h1;have s1:=ae (o:=.tup []) a8;have e1:aC H x0 (.tup []) x0=some (.tup []):=ad;generalize aC H x0 (.tup [])=H1 at s1 e1 ⊢;symm;obtain⟨bs,o,B,a4,c3⟩:=id hl;obtain⟨b1,O⟩:=r9 u.gc (λp hp=>((Z p hp).1.row u.m6)) b3 b0;refine⟨_,.inl (.inr ⟨o,s1 _ _ B⟩),?_⟩;refine DQ (xs:=bs.map V.ref) (λi σ H'=>ck d1 d2 H H'/\eG st c m H' d1 d2/\i<=bs.length/\∃(x:Addr) (vs:List V) (y z:Option V),H' x=some (.tup vs)/\aP H' (((ts.reverse.take i).reverse).map bu.d) vs/\vs.length<=i/\σ=[some (V.ref a),some (V.ref l),some (V.int (By c k ps i:Nat)),some (V.ref x),y,z])
   ⟨.of s1,(u.up s1).mm,MV _,x0,[],_,_,e1,by unfold aP;rfl,MU _,rfl⟩ (λi σ H' _ h=>.inl (.inr ⟨o,h.1 _ _ (λz=>by obtain⟨m1,_,h1,_⟩:=u.mm;rw[z,h1]at B;cases B) (λz=>by obtain⟨_,m2,_,h2,_⟩:=u.mm;rw[z,h2]at B;cases B) B⟩)) ?_ ?_
  ·rintro i x σ H2 a2 hx ⟨sd,mm,hi,xt,vs,y,z,L,D,a9,rfl⟩
   have c1:i<bs.length:=by simpa using a2
   have M:bs.length-1-i<bs.length:=by omega
   rw[My,MA,Mv M]at hx;cases hx;obtain⟨p,G⟩:∃p,ps[bs.length-1-i]?=some p:=⟨_,Mv ⋯⟩;have hb:=c3 _ _ _ (Mv M) G;have a0:ps.reverse[i]?=some p:=by
    rw[List.getElem?_reverse ⋯,<- a4];exact G
   obtain⟨S,kn⟩:=Z _ (MB G);have c0:ps≠[]:=λe=>by rw[e]at G;simp at G
   obtain⟨t,b2,Y⟩:=O i _ a0;have c2:By c k ps (i+1)=By c k ps i/CN c p:=DI a0;generalize bs[bs.length-1-i]'M=b at hb;have r:=u.next sd mm;have a5:=(u.kp sd).tup hb;have a3:=b6 u.gc (S.row u.m6);have c9:0<CN c p:=by rw[<- a3];have:=(Mw.mp Y).1;omega
   have c6:=Gf u.gc u.n24 (p:=p) (by have:=S.rm;have:=u.m6;omega) (by have:=S.cm;have:=u.m6;omega) S.k16;ac_nf;refine⟨dx,_,r.at_,rfl,a,dx,g,dg,d1,d2,b,sg,st,as,c,m,p,rfl,r,a5,.inl ⟨S,nofun,by have:=S.k16;omega,λH3 J a7=>h2 _ _ ?_⟩⟩;clear h2;have I:=r.next J a7;have c4:=(r.kp J).tup a5;ac_nf;refine⟨dx,_,I.at_,rfl,⋯,a,dx,g,dg,d1,d2,b,sg,st,as,c,m,p,_,rfl,I,c4,hn c0,.inl ⟨S,kn,λj t' ej hj v H4 T a6 hv=>?_,λbad=>?_⟩⟩
   rotate_left
   ·exfalso
    have h1:(By c k ps i:Int)%(CN c p:Int)=((By c k ps i%CN c p:Nat):Int):=by push_cast;rfl
    have h2:=Nat.mod_lt (By c k ps i) c9;omega
   have d0:j=By c k ps i%CN c p:=by
    have h1:(By c k ps i:Int)%(CN c p:Int)=((By c k ps i%CN c p:Nat):Int):=by push_cast;rfl
    omega
   rw[d0,Y]at hj;cases hj;refine⟨ao nofun,λp1 b4=>?_⟩;have s5:=ae (o:=.tup [v]) b4;have e5:aC H4 p1 (.tup [v]) p1=some (.tup [v]):=ad;generalize aC H4 p1 (.tup [v])=H5 at s5 e5 ⊢;have C:=(J.trans T).trans (.of s5);have U:=(r.kp C).tup L;refine i7 e5 U (by simp) (by simp;omega) λp2 H6 a1 s6=>h2 _ _ ?_;clear h2;ext;refine⟨⟨⋯,Gq c6⟩,(sd.trans C).trans (.of s6),((I.next T a6).up (s5.trans s6)).mm,c1,p2,[v]++vs,a1,?_,by simp;omega,?_⟩
   ·have e8:(ts.reverse.take (i+1)).reverse=t::(ts.reverse.take i).reverse:=by rw[q0D,b2];simp
    rw[e8,M4];have tu:du H2 H6:=λx xs e=>((r.kp C).trans (.of s6)).tup e;exact aP.cons (hv.up (du.of (s5.trans s6)) _) (D.up tu _)
   ·exact⟨by rw[c2];push_cast;rfl,rfl⟩
  ·rintro σ H2 ⟨sd,mm,hi,xt,vs,y,z,L,D,a9,rfl⟩
   refine h1 _ _ ?_;ext;rw[My,a4,<- b1]at D;rw[<- MO,M',List.reverse_reverse]at D;exact q xt vs H2 sd mm L D
abbrev cH:Stmt:=fG 41 5
theorem l6:az ["self","row","k","passed","number","rows","many"] ["self","row","k"] (am cH):=by walk_at "c"
theorem sX{f CT yaa yac:Addr}{lv:Nat}(hlv:72<=lv)(F:cE K "tree_in" "TreeRows.tree_in" cH f fd)(nb:NB mg)(yas:mg "NoNumber"=some (.ref yac))(yaF:XR K yac)
  (yal:cn P w K mg base (bI P w) 71 CT "steps_of" ["self","row"] (bX R CG CT yaa 17)) (yd6:cn P w K mg base (bI P w) (lv+1) CT "trees_in" ["self","rows","k"] (gQ R CG CT n)) :
  aY P w K mg base (bI P w) (lv+2) f fd ["self","row","k"] (cL R CG CT yaa yac (n+1)):=by
 have sc:=l6;walk_at "x"
 ·obtain⟨a,dx,g,dg,d1,d2,b,sg,st,as,D,m,p,k,rfl,_⟩:=h;rfl
 ·obtain⟨a,dx,g,dg,d1,d2,b,sg,st,as,D,m,p,k,rfl,c,hb,_,cs⟩:=h
  have hu:=hr.units;refine⟨_,(af (q01 3 sc.nd ai)
   (af (bL PassesOwn.leaving rfl (cG (bV yal (hr.mono ⋯) (bo λ_ _ _ h=>h) (al 0) (aa (al 1) ac))) (gb (n:=3) rfl (aU (q02 4 sc.nd) (aU (q02 5 sc.nd) (aU (q02 6 sc.nd) cY))))
   (af (bp (qI (br.m0 mj) (br.m0 pC) (al 3) (al 2) (aA (br.m0 bP) (al 3) (al 6)))
   (aj (aG (aA d_ (aQ (aa (al 4) ac)) (bV yd6 (hr.mono ⋯) (bo λ_ _ _ h=>h) (al 0) (aa (al 5) (aa (aA (br.m0 fk) (al 2) (al 3)) ac))))))
   aN)
   (aj (q01 3 sc.nd (aA (br.m0 bP) (al 3) (al 6))))))
   (aj (dS yaF rfl rfl yas (fE λ_ _ _ h=>h) (bJ ac))))),?_⟩
  symm;refine h1 _ _ ?_;grind;refine⟨dx,_,c.at_,rfl,a,dx,g,dg,d1,d2,b,sg,st,as,D,m,p,rfl,c,hb,?_⟩;rcases cs with⟨dp,pn,q,bad⟩ | ⟨nn,ex⟩
  rotate_left
  ·exact .inr ⟨nofun,nn,ex⟩
  refine .inl ⟨dp,nofun,by have:=dp.k16;omega,λl H1 M U _ hZ=>?_⟩;have a7:=c.next M U;have ok:=dp.row c.m6;have hsl:=o8 c.gc ok c.n24;have b3:=oz c.gc ok;obtain⟨ts,o,Z,b1,b2⟩:=id hZ;refine⟨l,rfl,⟨_,.inl (.inr ⟨o,Z⟩)⟩,?_⟩;refine dh (xs:=ts.map V.ref) (λi σ H'=>H'=H1/\(i<=ts.length/\¬ ((0:Int)<=k/\k<((((aZ D p).take i).map λs=>s.2.2).sum:Nat)))/\∃x y z,σ=[some (V.ref a),some (V.ref b),some (V.int k),some (V.int ((((aZ D p).take i).map λs=>s.2.2).sum:Nat)),x,y,z])
   ⟨rfl,⟨MV _,by rw[No];simp⟩,_,_,_,rfl⟩ (λi σ H' _ h=>by rw[h.1];exact .inl (.inr ⟨o,Z⟩)) ?_ ?_
  ·rintro i x σ H2 hx ⟨rfl,⟨hi,S⟩,x1,y1,z1,rfl⟩
   have v:i<ts.length:=by have:=(Mw.mp hx).1;rwa [My]at this
   rw[MA,Mv v]at hx;cases hx;obtain⟨B,r⟩:∃s,(aZ D p)[i]?=some s:=⟨_,Mv ⋯⟩;obtain⟨rl,he,hT⟩:=b2 i _ B (Mv v) r;generalize ts[i]'v=t at he;have a0:=uy (λs:v9=>s.2.2) _ _ _ r;generalize b4:(((aZ D p).take i).map λs=>s.2.2).sum=pas at S a0;ext;refine⟨_,aV.of he,rfl,_,_,rfl,_,_,rfl,_,_,rfl,rfl,?_⟩;rw[a0]
   by_cases a6:(pas:Int)<=k
   ·rw[q07 a6]
    refine⟨_,rfl,?_⟩
    by_cases a5:k<(pas:Int)+(B.2.2:Int)
    ·rw[q07 a5]
     refine⟨ao nofun,λp1 c0=>?_⟩;have s2:=ae (o:=.tup [V.int (B.1:Int)]) c0;have e2:aC H2 p1 (.tup [V.int (B.1:Int)]) p1=some (.tup [V.int (B.1:Int)]):=ad;generalize aC H2 p1 (.tup [V.int (B.1:Int)])=H3 at s2 e2 ⊢;have C:=a7.up s2;obtain⟨j,hj⟩:∃j:Nat,k=((pas+j:Nat):Int):=⟨(k-pas).toNat,⋯⟩;obtain⟨q0,a1,hn0,G,c2,h00,hfw⟩:=fN (MB r);have hfp:=bR ok.r1 ok.c1;obtain⟨q4,qc,qc9⟩:=c.gc q0 (MB a1);have a3:B.2.1.length<=2:=by
      rcases dA q4 ok.r1 ok.c1 G with e | ⟨T,e,_⟩ | ⟨_,z,f,sz,f1,f2,e⟩<;>rw[e]<;>simp
     have a4:∀T∈B.2.1,d9 T:=λT u=>(fO c.gc ok (MB r) u).1;obtain⟨J,O⟩:∃J,(bE (RT D) B.2.1)[j]?=some J:=⟨_,Mv (by rw[fM (g:=CN D) λT u=>b6 c.gc (a4 T u),<- c2];omega)⟩;refine⟨dx,_,C.at_,rfl,a,dx,g,dg,d1,d2,rl,sg,st,as,D,m,B.2.1,j,J,by rw[show k-(pas:Int)=(j:Int) by omega],C,hT.kz (Kp.of s2).z,λT u=>?_,a3,λ_=>by omega,O,λx vs H4 L a8 a9 Y=>?_⟩
     ·obtain⟨d',lt'⟩:=dp.part c.gc (MB a1) ⋯ G u
      exact⟨d',by push_cast at pn;omega⟩
     ·have htl2:=(r9 c.gc a4 a3 O).1
      have b0:=Y.length;rw[My]at b0;refine i7 ((C.kp L).tup e2) a9 (by simp) (by simp;omega) λp2 H5 a2 s5=>?_;have I:=Ev c.gc ok r O;rw[b4]at I;refine q (pas+j) _ hj I (.ref p2) H5 (((M.trans (.of s2)).trans L).trans (.of s5)) ((C.next L a8).up s5).mm (bu.of (vs:=vs) ?_ ?_)
      ·rw[AT];exact a2
      ·rw[EI _ ⋯];exact Y.up (du.of s5) _
    ·rw[q06 a5]
     exact⟨_,rfl,v,⋯,by push_cast;rfl⟩
   ·rw[q06 a6]
    exact⟨_,rfl,v,⋯,by push_cast;rfl⟩
  ·rintro σ H2 ⟨rfl,⟨_,S⟩,x1,y1,z1,rfl⟩
   refine h1 _ _ ?_;ext;rw[My,b1,M',b3]at S;exact⟨ao nofun,bad ⋯ H2 M U⟩
theorem Cw{f CT yaa yac:Addr}(F:cE K "tree_in" "TreeRows.tree_in" cH f fd):aY P w K mg base (bI P w) 73 f fd ["self","row","k"] (cL R CG CT yaa yac 0):=by
 have c:∀{vs:List V} {H:Hp} {Q:VK} {E:XK},¬ cL R CG CT yaa yac 0 vs H Q E:=λh=>by
  obtain⟨a,dx,g,dg,d1,d2,b,sg,st,as,rs,m,p,k,_,_,_,e,_⟩:=h;exact q0N e ⋯
 exact F.okX (k:=72) (sp:=cL R CG CT yaa yac 0) l6 (λvs H Q E h=>q0N h c) (λcdv A outer s H vs Q E hr h=>q0N h c)
theorem pI{CT yaa yac:Addr}{fd1 fd2:NA}(F1:cE K "tree_in" "TreeRows.tree_in" cH f1 fd1)(F2:cE K "trees_in" "TreeRows.trees_in" cK f2 fd2)(nb:NB mg)(ct:fY K CT)(yas:mg "NoNumber"=some (.ref yac))(yaF:XR K yac)
  (me1:c_ K CT "tree_in" f1) (me2:c_ K CT "trees_in" f2) (b1:bU K fd1 ["self","row","k"] []) (b2:bU K fd2 ["self","rows","k"] [])
  (yag:cn P w K mg base (bI P w) 72 CT "many_in" ["self","row"] (bA R CG CT yaa 17)) (yal:cn P w K mg base (bI P w) 71 CT "steps_of" ["self","row"] (bX R CG CT yaa 17)) :
  ∀n,cn P w K mg base (bI P w) (73+2*n) CT "tree_in" ["self","row","k"] (cL R CG CT yaa yac n)
 |0=>⟨f1,fd1,Cw F1,ct.cl,me1,b1⟩
 |n+1=>by
  have ih:=pI F1 F2 nb ct yas yaF me1 me2 b1 b2 yag yal n;have c2:cn P w K mg base (bI P w) (73+2*n+1) CT "trees_in" ["self","rows","k"] (gQ R CG CT n):=⟨f2,fd2,rn (lv:=73+2*n) ⋯ F2 nb yag ih,ct.cl,me2,b2⟩;exact⟨f1,fd1,sX (lv:=73+2*n) ⋯ F1 nb yas yaF yal c2,ct.cl,me1,b1⟩
abbrev lm:Stmt:=fG 6 0
theorem Ef:az ["self","why"] ["self","why"] (am lm):=by walk_at "c"
theorem D9{f:Addr}(F:cE K "__init__" "NoTree.__init__" lm f fd)(xs:W.XSt K C "why"):↑aY 1 f fd ["self","why"] (nW C "why"):=by
 have sc:=Ef;refine F.ok sc (λvs H Q E h=>by obtain⟨_,_,h,_⟩:=h;rw[h];rfl) (λcdv A outer s H vs Q E hr h=>?_)
 ·obtain⟨a,v,rfl,c,q⟩:=h
  refine⟨_,(aj (AM (pv 0) (pv 1) rfl)),?_⟩;ext;exact⟨C,c,xs,λd b=>q d b⟩
structure SJ where
 d:Dt
 nm:List Nat
 p:bH
 c:Int
 m:Int
 k:Nat
def Sh:Nat->Dt->List Int->Prop
 |0,_,_=>False
 |n+1,d,ns=>∃(i:Nat) (ds:List Dt) (nss:List (List Int)),d=.tup (.int (i:Int)::ds)/\ns=(i:Int)::nss.flatten/\ds.length=nss.length/\ds.length<=2/\∀(j:Nat) d' ns',ds[j]?=some d'->nss[j]?=some ns'->Sh n d' ns'
theorem Sh.mono:∀{m n:Nat} {d:Dt} {ns:List Int},Sh m d ns->m<=n->Sh n d ns
 |0,_,_,_,h,_=>h.elim
 |m+1,0,_,_,_,h=>q0N h ⋯
 |m+1,n+1,d,ns,⟨i,ds,nss,e1,e2,e3,e4,h⟩,hmn=>⟨i,ds,nss,e1,e2,e3,e4,λj d' ns' h1 h2=>(h j d' ns' h1 h2).mono ⋯⟩
theorem Sh.len:∀{n:Nat} {d:Dt} {ns:List Int},Sh n d ns->ns.length<2 ^ n
 |0,_,_,h=>h.elim
 |n+1,d,ns,⟨i,ds,nss,e1,e2,e3,e4,h⟩=>by
  have hp:0<2 ^ n:=Nat.two_pow_pos n;have h':∀(j:Nat) ns',nss[j]?=some ns'->ns'.length<2 ^ n:=λj ns' hj=>by
   have hj2:j<ds.length:=by rw[e3];exact(Mw.mp hj).1
   exact(h j _ ns' (Mv hj2) hj).len
  rw[e2,Nat.pow_succ]
  match nss,e3,h' with
  | [],_,_=>simp;omega
  | [a],_,h'=>have:=h' 0 a rfl;simp;omega
  | [a,b],_,h'=>have:=h' 0 a rfl;have:=h' 1 b rfl;simp;omega
  |a::b::c::nss,e3,_=>simp at e3;omega
theorem uw{α:Type}{xss:List (List α)}{j:Nat}{xs:List α}(h:xss[j]?=some xs):(xss.take (j+1)).flatten=(xss.take j).flatten++xs:=by
 rw[List.take_succ,h];simp
theorem jy{α:Type}:∀(xss:List (List α)) (j:Nat),(xss.take j).flatten.length<=xss.flatten.length
 | [],_=>by simp
 |xs::xss,0=>by simp
 |xs::xss,j+1=>by have:=jy xss j;simp[-List.length_flatten] ;omega
abbrev jx:Stmt:=h_ 37
inductive iA(n:Nat)(vs:List V)(H:Hp)(Q:VK)(_E:XK):Prop
 |mk (v:V) (d:Dt) (ns:List Int) (_:vs=[v]) (_:bg H d v) (_:Sh n d ns) (_:∀l H',H l=none->H' l=some (.lst (ns.map V.int))->aE H H'->Q (.ref l) H')
theorem ml:az ["tree","numbers","part"] ["tree"] (am jx):=by walk_at "c"
theorem mq{f:Addr}(F:cE K "numbers_in" "numbers_in" jx f fd)(nb:NB mg)(hm:mg "numbers_in"=some (.ref f))(hk:W.keepIn K (.ref f)=true)(hb:bU K fd ["tree"] []):∀n,n<=18->↑aY (n+1) f fd ["tree"] (iA n)
 |0,_=>by
  refine F.ok ml (λvs H Q E h=>?_) (λcdv A outer s H vs Q E hr h=>?_)
  ·obtain⟨v,d,ns,_,_,h,_⟩:=h;exact h.elim
  ·obtain⟨v,d,ns,_,_,h,_⟩:=h;exact h.elim
 |n+1,hn=>by
  have sc:=ml;have yaP:↑cW (n+1) "numbers_in" ["tree"] (iA n):=⟨f,fd,mq F nb hm hk hb n ⋯,hm,hk,hb⟩;walk_at "f"
  ·obtain⟨v,d,ns,rfl,ht,hsh,q⟩:=h
   refine⟨_,(af (q01 1 sc.nd (bz (aa (au ar (al 0) ai (λ_ _=>rfl)) ac)))
   (af (bL PassesOwn.never rfl (wb (cJ kD (al 0) (cP ai) eC)) (q02 2 sc.nd)
   (aj (bF (jO PySem.F.plainAttrs_list PySem.F.slot_list_extend PySem.F.type_list_extend BL (al 1) (aa (aF yaP (hr.mono ⋯) rfl aR (aa (al 2) ac)) ac)))))
   (aj (aG (al 1))))),?_⟩
   obtain⟨i,ds,nss,rfl,rfl,e3,e4,hch⟩:=hsh;unfold bg at ht;obtain⟨a,xs,rfl,hta,hts⟩:=ht;obtain⟨x0,ys,rfl,hx0,htr⟩:=hts.uncons;unfold bg at hx0;subst hx0;have hyl:=htr.length;symm;refine⟨_,aV.of hta,_,fz _ _,ao nofun,λl hl=>h1 _ _ ?_⟩;grind;have s1:=ae (o:=.lst [V.int (i:Int)]) hl;have e1:aC H l (.lst [V.int (i:Int)]) l=some (.lst [V.int (i:Int)]):=ad;generalize aC H l (.lst [V.int (i:Int)])=H1 at s1 e1 ⊢;refine⟨_,aV.of (s1 _ _ hta),nh _ _,λp hp=>?_⟩;rw[Ek];have s2:=s1.trans (ae (o:=.tup ys) hp);have e2:=ae (o:=.tup ys) hp _ _ e1;have ep:aC H1 p (.tup ys) p=some (.tup ys):=ad;generalize aC H1 p (.tup ys)=H2 at s2 e2 ep ⊢;refine⟨⟨_,aV.of ep⟩,?_⟩;have hpw:2 ^ (n+1)<=2 ^ 18:=Nat.pow_le_pow_right nofun hn;have hlen:(nss.flatten).length+1<262145:=by
    have h:=Sh.len (n:=n+1) (d:=.tup (.int (i:Int)::ds)) (ns:=(i:Int)::nss.flatten) ⟨i,ds,nss,rfl,rfl,e3,e4,hch⟩;rw[MI]at h;have:(2:Nat) ^ 18=262144:=by decide
    omega
   refine xZ (xs:=ys) (λj σ k=>aE H k/\k p=some (.tup ys)/\k l=some (.lst (((i:Int)::(nss.take j).flatten).map V.int))/\∃z,σ=[some (V.ref a),some (V.ref l),z]) ⟨s2,ep,by rw[No];exact e2,_,rfl⟩ ?_ ?_ ?_
   ·rintro j σ k _ ⟨_,h,_⟩
    exact aV.of h
   ·rintro j x σ k D ⟨u,c,b,z,rfl⟩
    obtain⟨C,r,B⟩:=fH htr D;have G:j<nss.length:=by rw[<- e3];exact(Mw.mp r).1
    have g:nss[j]?=some nss[j]:=Mv G;have b1:=jy nss j;have J:=jy nss (j+1);rw[uw g,MT]at J;ext;refine⟨.inl ⟨rfl,_,aT.of b⟩,x,C,nss[j],rfl,B.up (du.of u) _,hch j C _ r g,λm H3 hm3 I y=>⟨m,rfl,_,y _ _ b,_,I,?_,dP (u.trans y) hl,?_,?_⟩⟩
    ·simp only[My,MI]
     exact ao ⋯
    ·rw[aq (λe=>by rw[e,b]at c;cases c)]
     exact y _ _ c
    ·rw[ad,uw g]
     simp
   ·rintro σ k ⟨u,c,b,z,rfl⟩
    refine h1 _ _ ?_;ext;rw[hyl,e3,M']at b;exact q l k hl b u
theorem Gr.node{d:Dt}{nm:Nu}(g:Gr rs d nm p c k):∃(n:Nat) (r:Nat×RV) (ys:List SJ),d=.tup (.int (n:Int)::ys.map SJ.d)/\rs[n]?=some r/\nm=r.2.n/\bh r.1 r.2=ys.map SJ.nm/\(∀y∈ys,Gr rs y.d y.nm y.p y.c y.k/\y.k<k)/\fj r.1 r.2 (ys.map SJ.p)=some p/\c=r.2.c+(ys.map SJ.c).sum/\ys.length<=2:=by
 cases g with
 | @cell n v e=>exact⟨n,(0,v),[],rfl,e,rfl,rfl,λy hy=>(nomatch hy),rfl,(Int.add_zero _).symm,by simp⟩
 | @turn n v d p c k e g=>
  refine⟨n,(3,v),[⟨d,v.o1,p,c,0,k⟩],rfl,e,rfl,rfl,λy hy=>?_,rfl,?_,by simp⟩
  ·rw[Mz.mp hy];exact⟨g,M7 _⟩
  ·show v.c+c=v.c+(c+0)
   rw[Int.add_zero]
 | @pair n kd v d1 d2 p1 p2 p c1 c2 k1 k2 hk e g1 g2 m=>
  refine⟨n,(kd,v),[⟨d1,v.o1,p1,c1,0,k1⟩,⟨d2,v.o2,p2,c2,0,k2⟩],rfl,e,rfl,?_,λy hy=>?_,m,?_,by simp⟩
  ·rcases hk with rfl | rfl<;>rfl
  ·rcases MM.mp hy with rfl | hy
   ·exact⟨g1,by show k1<max k1 k2+1;omega⟩
   ·rw[Mz.mp hy]
    exact⟨g2,by show k2<max k1 k2+1;omega⟩
  ·show v.c+(c1+c2)=v.c+(c1+(c2+0))
   rw[Int.add_zero]
abbrev jj:Stmt:=h_ 38
inductive iK(K:W.Frag)(R:RC)(CG:Addr)(n:Nat)(vs:List V)(H:Hp)(Q:VK)(_E:XK):Prop
 |mk (g:Addr) (v:V) (pl:Addr) (nv:V) (dx:Addr) (sg st:Nu) (as:Ny) (rs:Yaa) (d:Dt) (nm:Nu) (p:bH) (c:Int) (k:Nat) (zs:List V) (_:vs=[.ref g,v,.ref pl,nv]) (_:eJ R H CG dx g sg st as rs) (_:rs.length<=24) (_:bg H d v) (_:Gr rs d nm p c k) (_:k<=n) (_:(nv=.non\/nv=.str (tx nm))) (_:aV K H pl zs) (_:zs.length+n<=100) (_:∀H',aE H H'->Q .non H')
theorem mf:az ["grammar","tree","place","name","number","rule","parts","k","part"] ["grammar","tree","place","name"] (am jj):=by walk_at "c"
theorem l9{f yaf:Addr}(F:cE K "check_form" "check_form" jj f fd)(nb:NB mg)(rk:qh K R)(yaE:mg "NoTree"=some (.ref yaf))(yaD:XI P w K mg base 1 yaf "why")(yay:↑qb 1 "parts" (pk K R))(yad:↑cn 1 CG "rule" ["self","k"] (cr R CG))(yaZ:↑cn 1 CG "many" ["self"] (jb R CG))(hm:mg "check_form"=some (.ref f))(hk:W.keepIn K (.ref f)=true)(hb:bU K fd ["grammar","tree","place","name"] []):∀n,n<=18->aY P w K mg base (bI P w) (n+4) f fd ["grammar","tree","place","name"] (iK K R CG n)
 |0,_=>by
  refine F.okX mf (λvs H Q E h=>?_) (λcdv A outer s H vs Q E hr h=>?_)
  ·obtain⟨g,v,pl,nv,dx,sg,st,as,rs,d,nm,p,c,k,zs,rfl,_⟩:=h;rfl
  ·obtain⟨g,v,pl,nv,dx,sg,st,as,rs,d,nm,p,c,k,zs,rfl,_,_,_,hg,hk0,_⟩:=h
   exfalso;cases hg<;>omega
 |n+1,hn=>by
  have sc:=mf;have yaN:cW P w K mg base (bI P w) (n+4) "check_form" ["grammar","tree","place","name"] (iK K R CG n):=⟨f,fd,l9 F nb rk yaE yaD yay yad yaZ hm hk hb n ⋯,hm,hk,hb⟩;walk_at "x"
  ·obtain⟨g,v,pl,nv,dx,sg,st,as,rs,d,nm,p,c,k,zs,rfl,_⟩:=h;rfl
  ·obtain⟨g,v,pl,nv,dx,sg,st,as,rs,d,nm,p,c,k,zs,rfl,hG,h24,ht,hg,hkn,hnv,hpl,hz,q⟩:=h
   refine⟨_,(af (q01 4 sc.nd (au ar (al 1) ai (λ_ _=>rfl)))
   (af (bp (PW.pt (fm (aH (br.m0 pC) (al 4) ai (aL _)) (fB (aH (br.m0 GU) (al 4) (EJ yaZ (hr.mono ⋯) aR (al 0)) (aL _)))))
   (aj (eW yaD (hr.mono ⋯) rfl rfl yaE (eN λ_ _ _ h=>h) (aa (aQ (bJ (aa (al 2) ac))) ac)))
   aN)
   (af (q01 5 sc.nd (bV yad (hr.mono ⋯) aR (al 0) (aa (al 4) ac)))
   (af (q01 6 sc.nd (xf yay (hr.mono ⋯) aR (al 5)))
   (af (bp (aH nu (aA (br.m0 fk) (ax ph rfl nb.len aW (aa (al 1) ac)) ai) (ax aX rfl nb.len aW (aa (al 6) ac)) (aL _))
   (aj (eW yaD (hr.mono ⋯) rfl rfl yaE (eN λ_ _ _ h=>h) (aa (aQ (bJ (aa (al 2) ac))) ac)))
   aN)
   (af (bp (PW.pt (m7 (aH uX (al 3) f_ (aL _)) (og (aH nu (bN (al 5) rfl) (al 3) (aL _)))))
   (aj (eW yaD (hr.mono ⋯) rfl rfl yaE (eN λ_ _ _ h=>h) (aa (aQ (bJ (aa (al 2) ac))) ac)))
   aN)
   (aj (bL PassesOwn.leaving rfl (nL rfl nb.enumerate (aa (al 6) ac)) (gb (n:=2) rfl (aU (q02 7 sc.nd) (aU (q02 8 sc.nd) cY)))
   (aj (bF (aF (E:=E) yaN (hr.mono ⋯) rfl (bo λ_ _ _ h=>h) (aa (al 0) (aa (au ar (al 1) (aA (br.m0 bP) (al 7) ai) (λ_ _=>rfl)) (aa (aA AU (al 2) (aQ (aa (al 7) ac))) (aa (al 8) ac))))))))))))))),?_⟩
   obtain⟨i,r,ys,rfl,hri,rfl,hpar,hsub,hmd,hcc,hyl⟩:=hg.node;unfold bg at ht;obtain⟨a,xs,rfl,hta,hts⟩:=ht;obtain⟨x0,vs,rfl,hx0,htr⟩:=hts.uncons;unfold bg at hx0;subst hx0;have hvl:=htr.length;have hvl2:vs.length=ys.length:=by rw[hvl,My]
   have hi:i<rs.length:=(Mw.mp hri).1;symm;refine⟨_,aV.of hta,_,fz _ _,h1 _ _ ?_⟩;grind;obtain⟨lk,pn,t,ha,hkk,G,hN,hmm⟩:=id hG;rw[q06 ⋯];refine⟨_,_,ha,rfl,g,dx,sg,st,as,rs,rfl,hG,?_⟩;refine⟨_,rfl,?_⟩;rw[q06 ⋯];refine h1 _ _ ?_;grind;have a4:i<as.length:=by rw[G.1];exact hi
   obtain⟨b,L⟩:∃b,as[i]?=some b:=⟨_,Mv a4⟩;have B:=G.2 i b r L hri;refine⟨_,_,ha,rfl,g,dx,sg,st,as,rs,i,b,rfl,hG,L,h1 _ _ ?_⟩;grind;refine uG rk B λlp H1 hlp0 y s1=>h1 _ _ ?_;grind;have l:(aJ (bh r.1 r.2)).length=ys.length:=by rw[aw,hpar,My]
   refine⟨_,aV.of (s1 _ _ hta),_,aT.of y,?_⟩;rw[l,q06 (by rw[MI,hvl2];omega)];refine h1 _ _ ?_;grind;obtain⟨rdx,rl,a2,hrl⟩:=id B;have go:N1 [some (V.ref g),some (V.ref a),some (V.ref pl),some nv,some (V.int (i:Int)),some (V.ref b),some (V.ref lp),none,none] H1:=by
    refine h1 _ _ ?_;clear h1;ext;refine⟨_,aT.of y,?_⟩;refine lw (xs:=aJ (bh r.1 r.2)) (λj σ u=>aE H u/\u lp=some (.lst (aJ (bh r.1 r.2)))/\∃S O,σ=[some (V.ref g),some (V.ref a),some (V.ref pl),some nv,some (V.int (i:Int)),some (V.ref b),some (V.ref lp),S,O]) ⟨s1,y,_,_,rfl⟩ ?_ ?_ ?_
    ·rintro j σ u _ ⟨_,h,_⟩
     exact aT.of h
    ·rintro j x σ u T M ⟨U,m,S,O,rfl⟩ hT
     have hj:j<ys.length:=by rw[<- l];exact(Mw.mp M).1
     have a0:x=V.str (tx ys[j].nm):=by
      rw[hpar]at M;rw[bi (by rw[My];exact hj),MZ]at M;exact(q0P M).symm
     subst a0;have Y:=ae (o:=.tup [V.int (j:Int),V.str (tx ys[j].nm)]) hT;have eT:aC u T (.tup [V.int (j:Int),V.str (tx ys[j].nm)]) T=some (.tup [V.int (j:Int),V.str (tx ys[j].nm)]):=ad;generalize aC u T (.tup [V.int (j:Int),V.str (tx ys[j].nm)])=H2 at Y eT ⊢;have C:=U.trans Y;have a5:j<vs.length:=by omega
     have D:vs[j]?=some vs[j]:=Mv a5;obtain⟨d',J,a1⟩:=fH htr D;rw[MA,Mv hj]at J;cases J;obtain⟨a6,hkj⟩:=hsub ys[j] (MF hj);ext;refine⟨_,aV.of eT,rfl,_,_,rfl,_,_,rfl,rfl,?_⟩;refine⟨_,rfl,_,aV.of (C _ _ hta),_,show dY (V.int (i:Int)::vs) (((j+1:Nat)):Int)=some vs[j] from aM (by rw[M3];exact D),ao nofun,λp1 I=>?_⟩;have s3:=C.trans (ae (o:=.tup [V.int (j:Int)]) I);have sL:=Y.trans (ae (o:=.tup [V.int (j:Int)]) I);have e3:aC H2 p1 (.tup [V.int (j:Int)]) p1=some (.tup [V.int (j:Int)]):=ad;generalize aC H2 p1 (.tup [V.int (j:Int)])=H3 at s3 e3 sL ⊢;refine⟨_,s3.sqT hpl,_,aV.of e3,by simp;exact ao ⋯,λpp H4 a3 s4=>?_⟩;have Z:=s3.trans s4;refine⟨g,vs[j],pp,_,dx,sg,st,as,rs,ys[j].d,ys[j].nm,ys[j].p,ys[j].c,ys[j].k,_,rfl,hG.up Z,h24,a1.up (du.of Z) _,a6,⋯,.inr rfl,a3,by simp;omega,λH5 s6=>⟨Z.trans s6,s6 _ _ (s4 _ _ (sL _ _ m))⟩⟩
    ·rintro σ u ⟨U,m,S,O,rfl⟩
     exact q u U
   rcases hnv with rfl | rfl
   ·rw[q06 (λe=>e rfl)]
    exact go
   ·rw[q07 (λe=>by cases e)]
    refine⟨_,_,_,s1 _ _ a2,(rk.icls r.1).cl,(rk.name r.1).1,_,(i' rl r.2 r.1).1,rfl,?_⟩;rw[q06 (λe=>e rfl)];exact go
theorem FC{k:Nat}{ys:List SJ}(hk:k<4)(hp:bh k v=ys.map SJ.nm)(h6:∀y∈ys,∃r c,fA y.p r c):BM k (ys.map SJ.p):=by
 have a:=q0O List.length hp;rw[My]at a
 match k,hk with
 |0,_=>
  have g:ys.length=0:=a.symm;rw[Nd.mp g];exact .cell
 |1,_=>
  match ys,(show ys.length=2 from a.symm),h6 with
  | [x,y],_,h6=>
   obtain⟨r,c,h⟩:=h6 x (by simp);obtain⟨e,j,b⟩:=h6 y (by simp);exact .beside h b
 |2,_=>
  match ys,(show ys.length=2 from a.symm),h6 with
  | [x,y],_,h6=>
   obtain⟨r,c,h⟩:=h6 x (by simp);obtain⟨e,j,b⟩:=h6 y (by simp);exact .above h b
 |3,_=>
  match ys,(show ys.length=1 from a.symm),h6 with
  | [x],_,h6=>
   obtain⟨r,c,h⟩:=h6 x (by simp);exact .turn h
abbrev ES:Stmt:=h_ 39
inductive zZ(K:W.Frag)(R:RC)(CG:Addr)(n:Nat)(vs:List V)(H:Hp)(Q:VK)(_E:XK):Prop
 |mk (g:Addr) (v:V) (pl:Addr) (dx:Addr) (sg st:Nu) (as:Ny) (rs:Yaa) (d:Dt) (nm:Nu) (p:bH) (c:Int) (k:Nat) (zs:List V) (_:vs=[.ref g,v,.ref pl]) (_:eJ R H CG dx g sg st as rs) (_:(∀r∈rs,cU r)) (_:bg H d v) (_:Gr rs d nm p c k) (_:k<=n) (_:aV K H pl zs) (_:zs.length+n<=100) (_:cS H p Q)
theorem Dy:az ["grammar","tree","place","pictures","k","part"] ["grammar","tree","place"] (am ES):=by walk_at "c"
theorem DV{f CF:Addr}(F:cE K "lay" "lay" ES f fd)(nb:NB mg)(ya0:qb P w K mg base (bI P w) 4 "made" (rJ K R CF))(yad:↑cn 1 CG "rule" ["self","k"] (cr R CG))(hm:mg "lay"=some (.ref f))(hk:W.keepIn K (.ref f)=true)(hb:bU K fd ["grammar","tree","place"] []):∀n,n<=18->↑aY (n+5) f fd ["grammar","tree","place"] (zZ K R CG n)
 |0,_=>by
  refine F.ok Dy (λvs H Q E h=>?_) (λcdv A outer s H vs Q E hr h=>?_)
  ·obtain⟨g,v,pl,dx,sg,st,as,rs,d,nm,p,c,k,zs,rfl,_⟩:=h;rfl
  ·obtain⟨g,v,pl,dx,sg,st,as,rs,d,nm,p,c,k,zs,rfl,_,_,_,hg,hk0,_⟩:=h
   exfalso;cases hg<;>omega
 |n+1,hn=>by
  have sc:=Dy;have yaV:↑cW (n+5) "lay" ["grammar","tree","place"] (zZ K R CG n):=⟨f,fd,DV F nb ya0 yad hm hk hb n ⋯,hm,hk,hb⟩;walk_at "f"
  ·obtain⟨g,v,pl,dx,sg,st,as,rs,d,nm,p,c,k,zs,rfl,hG,hgd,ht,hg,hkn,hpl,hz,q⟩:=h
   refine⟨_,(af (q01 3 sc.nd (bz ac))
   (af (bL PassesOwn.never rfl (D_ rfl nb.enumerate (aa (cJ kD (al 1) (cP ai) eC) ac)) (gb (n:=2) rfl (aU (q02 4 sc.nd) (aU (q02 5 sc.nd) cY)))
   (aj (bF (q03 (al 3) (aa (aF yaV (hr.mono ⋯) rfl aR (aa (al 0) (aa (al 5) (aa (aA AU (al 2) (aQ (aa (al 4) ac))) ac)))) ac)))))
   (aj (xW (aj (aG (AC (CX:=bI P w) ya0 (hr.mono ⋯) bj (bV yad (hr.mono ⋯) aR (al 0) (aa (au ar (al 1) ai (λ_ _=>rfl)) ac)) (aa (al 3) ac)))))))),?_⟩
   obtain⟨i,r,ys,rfl,hri,rfl,hpar,hsub,hmd,hcc,hyl⟩:=hg.node;unfold bg at ht;obtain⟨a,xs,rfl,hta,hts⟩:=ht;obtain⟨x0,vs,rfl,hx0,htr⟩:=hts.uncons;unfold bg at hx0;subst hx0;have hvl:=htr.length;have hvl2:vs.length=ys.length:=by rw[hvl,My]
   have hi:i<rs.length:=(Mw.mp hri).1;symm;refine⟨MV _,λl hl=>h1 _ _ ?_⟩;grind;have s1:=ae (o:=.lst []) hl;have e1:aC H l (.lst []) l=some (.lst []):=ad;generalize aC H l (.lst [])=H1 at s1 e1 ⊢;refine⟨_,aV.of (s1 _ _ hta),nh _ _,λpt S=>?_⟩;rw[Ek];have s2:=s1.trans (ae (o:=.tup vs) S);have e2:=ae (o:=.tup vs) S _ _ e1;have ep:aC H1 pt (.tup vs) pt=some (.tup vs):=ad;generalize aC H1 pt (.tup vs)=H2 at s2 e2 ep ⊢;have b3:∀y∈ys,y.p≠[]:=λy hy e=>by
    obtain⟨r',c',h6⟩:=(hsub y hy).1.pic6 hgd;have:=h6.rc.1;have:=h6.r0;rw[e]at *;simp at *;omega
   refine⟨_,aV.of ep,?_⟩;refine yO (xs:=vs) (λj σ I=>aE H I/\I pt=some (.tup vs)/\(∃bs:List Addr,I l=some (.lst (bs.map V.ref))/\bs.length=j/\∀(m:Nat) b y,bs[m]?=some b->ys[m]?=some y->I b=some (.lst (aJ y.p)))/\∃z1 z2,σ=[some (V.ref g),some (V.ref a),some (V.ref pl),some (V.ref l),z1,z2]) ⟨s2,ep,⟨[],e2,rfl,λm b y h=>by simp at h⟩,_,_,rfl⟩ ?_ ?_ ?_
   ·rintro j σ I _ ⟨_,h,_⟩
    exact aV.of h
   ·rintro j x σ I T hx ⟨L,u,⟨bs,C,D,G⟩,z1,z2,rfl⟩ hT
    have hjv:j<vs.length:=(Mw.mp hx).1;have hj:j<ys.length:=by omega
    have sT:=ae (o:=.tup [V.int (j:Int),x]) hT;have eT:aC I T (.tup [V.int (j:Int),x]) T=some (.tup [V.int (j:Int),x]):=ad;generalize aC I T (.tup [V.int (j:Int),x])=H3 at sT eT ⊢;obtain⟨d',a0,b0⟩:=fH htr hx;rw[MA,Mv hj]at a0;cases a0;obtain⟨c3,hkj⟩:=hsub ys[j] (MF hj);have a5:=L.trans sT;ext;refine⟨_,aV.of eT,rfl,_,_,rfl,_,_,rfl,rfl,.inl ⟨rfl,_,aT.of (sT _ _ C)⟩,ao nofun,λp1 b2=>?_⟩;have sU:=ae (o:=.tup [V.int (j:Int)]) b2;have eU:aC H3 p1 (.tup [V.int (j:Int)]) p1=some (.tup [V.int (j:Int)]):=ad;generalize aC H3 p1 (.tup [V.int (j:Int)])=H4 at sU eU ⊢;have s4:=a5.trans sU;refine⟨_,s4.sqT hpl,_,aV.of eU,by simp;exact ao ⋯,λpp H5 b1 s5=>?_⟩;have s6:=s4.trans s5;have a6:=(sT.trans sU).trans s5;refine⟨g,x,pp,dx,sg,st,as,rs,ys[j].d,ys[j].nm,ys[j].p,ys[j].c,ys[j].k,_,rfl,hG.up s6,hgd,b0.up (du.of s6) _,c3,⋯,b1,by simp;omega,λlq H6 hlq0 c2 s7=>?_⟩;have M:=a6.trans s7;have Y:=M _ _ C;refine⟨_,Y,by rw[My];exact bf ⋯,dP (s6.trans s7) hl,?_,bs++[lq],by rw[ad];simp,by simp[D],λm b y B J=>?_⟩
    ·rw[aq (λe=>by rw[e,C]at u;cases u)]
     exact M _ _ u
    ·have a9:=MB J
     have a1:H6 b=some (.lst (aJ y.p)):=by
      by_cases c0:m<bs.length
      ·rw[MS c0]at B
       exact M _ _ (G m b y B J)
      ·rw[MR ⋯]at B
       have b4:m=bs.length:=by
        have:=(Mw.mp B).1;simp at this;omega
       subst b4;rw[Nat.sub_self]at B;cases B;rw[D,Mv hj]at J;cases J;exact c2
     rw[aq (zw Y a1 (b3 y a9))];exact a1
   ·rintro σ I ⟨L,u,⟨bs,C,D,G⟩,z1,z2,rfl⟩
    refine h1 _ _ ?_;ext;obtain⟨lk,pn,t,ha,hkk,O,hN,hmm⟩:=id (hG.up L);have c1:i<as.length:=by rw[O.1];exact hi
    obtain⟨b,a2⟩:∃b,as[i]?=some b:=⟨_,Mv c1⟩;have a4:=O.2 i b r a2 hri;have Z:=hgd r (MB hri);rw[hvl2]at D;have a3:DP I l bs (ys.map SJ.p):=⟨C,by rw[D,My],λm h1 h2=>by
     rw[MZ];exact G m _ _ (Mv h1) (Mv ⋯)⟩
    refine⟨_,_,ha,rfl,_,aV.of (L _ _ hta),_,fz _ _,g,dx,sg,st,as,rs,i,b,rfl,hG.up L,a2,?_⟩;obtain⟨o,ho,a8,a7,k1,k2,k3⟩:=Fu (K:=K) (CF:=CF) (E:=λ_ _ _=>False) (Q:=Q) a4 (Z.good.ok r.1) a3 (FC Z.k4 hpar λy hy=>(hsub y hy).1.pic6 hgd) (λp' U=>by
     rw[hmd]at U;cases U;exact λlq H7 h0 h7 s7=>q lq H7 (ik L h0) h7 (L.trans s7)) (λe=>by rw[hmd]at e;cases e)
    exact⟨o,ho,b,rfl,a8,a7,k1,k2,k3⟩
abbrev zB:Stmt:=h_ 35
def pA(R:RC)(CG:Addr)(H:Hp)(g:Addr)(v:V)(rs:Yaa)(d:Dt)(p:bH)(c:Int):Prop:=∃(dx:Addr) (sg st:Nu) (as:Ny) (nm:Nu) (k:Nat),eJ R H CG dx g sg st as rs/\(∀r∈rs,cU r)/\rs.length<=24/\bg H d v/\Gr rs d nm p c k/\k<=18
theorem pA.up{d:Dt}(h:pA R CG H g v rs d p c)(s:aE H H'):pA R CG H' g v rs d p c:=by
 obtain⟨o,b,a,q,e,k,h1,h2,n,m,l,j⟩:=h;exact⟨o,b,a,q,e,k,h1.up s,h2,n,m.up (du.of s) _,l,j⟩
inductive qB(R:RC)(CG:Addr)(vs:List V)(H:Hp)(Q:VK)(_E:XK):Prop
 |mk (g:Addr) (v:V) (rs:Yaa) (d:Dt) (p:bH) (c:Int) (_:vs=[.ref g,v]) (_:pA R CG H g v rs d p c) (_:cS H p Q)
theorem Gv:az ["grammar","tree"] ["grammar","tree"] (am zB):=by walk_at "c"
theorem F_{f:Addr}(F:cE K "laid" "laid" zB f fd)(nb:NB mg)(yaN:cW P w K mg base (bI P w) 22 "check_form" ["grammar","tree","place","name"] (iK K R CG 18))(yaV:↑cW 23 "lay" ["grammar","tree","place"] (zZ K R CG 18)):↑aY 24 f fd ["grammar","tree"] (qB R CG):=by
 have sc:=Gv;walk_at "f"
 ·obtain⟨g,v,x,d,p,c,rfl,⟨I,u,r,J,y,k,G,m,n,B,D,C⟩,q⟩:=h
  refine⟨_,(af (bF (aF (CX:=bI P w) yaN (hr.mono nofun) rfl bj (aa (al 0) (aa (al 1) (aa (aQ ac) (aa f_ ac))))))
   (aj (aG (aF yaV (hr.mono nofun) rfl aR (aa (al 0) (aa (al 1) (aa (aQ ac) ac))))))),?_⟩
  ext;refine⟨MV _,λS j=>?_⟩;have b:=ae (o:=.tup []) j;refine⟨g,v,S,_,I,u,r,J,x,d,y,p,c,k,[],rfl,G.up b,n,B.up (du.of b) _,D,C,.inl rfl,aV.of ad,by simp,λH2 M=>⟨MV _,λO e=>?_⟩⟩;have a:=(b.trans M).trans (ae (o:=.tup []) e);exact⟨g,v,O,I,u,r,J,x,d,y,p,c,k,[],rfl,G.up a,m,B.up (du.of a) _,D,C,aV.of ad,by simp,λl Y U T L=>q l Y (ik a U) T (a.trans L)⟩
def nr(rs:Yaa)(i:Int):Int:=match rs[i.toNat]? with | some r=>r.2.c | none=>0
theorem Gr.sh:∀{k:Nat} {d:Dt} {nm:Nu} {p:bH} {c:Int},Gr rs d nm p c k->∃ns:List Int,Sh k d ns/\(ns.map (nr rs)).sum=c/\∀i∈ns,0<=i/\i<rs.length:=by
 intro k d nm p c g
 induction g with
 | @cell n v e=>
  have u:=(Mw.mp e).1;refine⟨[(n:Int)],⟨n,[],[],rfl,rfl,rfl,by simp,λj w q h=>by simp at h⟩,?_,λi hi=>?_⟩
  ·show nr rs (n:Int)+0=v.c
   unfold nr;rw[MG,e,Int.add_zero]
  ·rw[Mz.mp hi];omega
 | @turn n v d p c k e g ih=>
  obtain⟨ns,h1,h2,r⟩:=ih;have u:=(Mw.mp e).1;refine⟨(n:Int)::ns,⟨n,[d],[ns],rfl,by simp,rfl,by simp,λj w q a b=>?_⟩,?_,λi hi=>?_⟩
  ·match j,a,b with
   |0,a,b=>cases a;cases b;exact h1
   |j+1,a,_=>simp at a
  ·rw[M4,List.sum_cons,h2]
   unfold nr;rw[MG,e]
  ·rcases MM.mp hi with rfl | hi
   ·omega
   ·exact r i hi
 | @pair n kd v d1 d2 p1 p2 p c1 c2 k1 k2 hk e g1 g2 m ih1 ih2=>
  obtain⟨o,h1,h2,r⟩:=ih1;obtain⟨l,B,y,x⟩:=ih2;have u:=(Mw.mp e).1;refine⟨(n:Int)::(o++l),⟨n,[d1,d2],[o,l],rfl,by simp,rfl,by simp,λj w q a b=>?_⟩,?_,λi hi=>?_⟩
  ·match j,a,b with
   |0,a,b=>cases a;cases b;exact h1.mono ⋯
   |1,a,b=>cases a;cases b;exact B.mono ⋯
   |j+2,a,_=>simp at a
  ·rw[M4,List.sum_cons,MJ,List.sum_append,h2,y]
   unfold nr;rw[MG,e]
  ·rcases MM.mp hi with rfl | hi
   ·omega
   ·rcases MK.mp hi with hi | hi
    ·exact r i hi
    ·exact x i hi
abbrev oq:Stmt:=h_ 36
inductive sQ(R:RC)(CG:Addr)(vs:List V)(H:Hp)(Q:VK)(_E:XK):Prop
 |mk (g:Addr) (v:V) (rs:Yaa) (d:Dt) (p:bH) (c:Int) (_:vs=[.ref g,v]) (_:pA R CG H g v rs d p c) (_:∀H',aE H H'->Q (.int c) H')
theorem ze:az ["grammar","tree"] ["grammar","tree"] (am oq):=by walk_at "c"
theorem yt{f:Addr}(F:cE K "cost_of" "cost_of" oq f fd)(nb:NB mg)(yaj:mg "sum"=none)(rk:qh K R)(yad:↑cn 1 CG "rule" ["self","k"] (cr R CG))(yaq:↑cW 24 "laid" ["grammar","tree"] (qB R CG))(yaP:↑cW 19 "numbers_in" ["tree"] (iA 18)):↑aY 25 f fd ["grammar","tree"] (sQ R CG):=by
 have sc:=ze;walk_at "f"
 ·obtain⟨g,v,a,d,p,c,rfl,Z,q⟩:=h
  refine⟨_,(af (bF (aF yaq (hr.mono nofun) rfl aR (aa (al 0) (aa (al 1) ac))))
   (aj (aG (ax (li rfl) rfl yaj uU (aa (b7 ["number"] [0] rfl (bB.of (by kernel_rfl)) (by kernel_rfl) (cG (aF yaP (hr.mono nofun) rfl aR (aa (al 1) ac)))
    (λ_ _ _ _=>(aD (i:=0) (by show(["number","grammar"]:List Str).Nodup;decide +kernel) rfl (Or.inl rfl))) (λ_ _ _ _=>bK) (λ_ _ _ _=>(Az (K:=K) rfl (bV yad (hr.mono nofun) aR (al 1) (aa (al 0) ac)) rfl))) ac))))),?_⟩
  ext;refine⟨g,v,a,d,p,c,rfl,Z,λl0 H1 _ _ S=>?_⟩;have L:=Z.up S;obtain⟨dx,sg,st,as,nm,k,hG,hgd,h24,ht,hg,Y⟩:=id L;obtain⟨e,o,m,G⟩:=hg.sh;refine⟨v,d,e,rfl,ht,o.mono Y,λl H2 hl0 U O=>?_⟩;ext;have M:=hG.up O;have hlen:e.length<262145:=by
   have h:=(o.mono Y).len;have:(2:Nat) ^ 18=262144:=by decide
   omega
  refine⟨⟨_,aT.of U⟩,?_⟩;refine gL (as:=e) (emb:=V.int) (f:=λi=>some (V.int (nr a i))) (λσ=>∃z,σ=[z,some (V.ref g)]) ⟨_,rfl⟩ (λH' s=>aT.of (s _ _ U)) ⋯ ?_ ?_
  ·rintro j i hj σ H' N1 N0 ⟨z0,rfl⟩ C k1 _
   obtain⟨hi0,hi1⟩:=G i (MB hj);obtain⟨n,rfl⟩:∃n:Nat,i=(n:Int):=⟨i.toNat,⋯⟩;have T:n<a.length:=by omega
   obtain⟨r,x⟩:∃r,a[n]?=some r:=⟨_,Mv T⟩;have B:=M.up C;obtain⟨lk,pn,t,ha,hkk,u,hN,hmm⟩:=id B;have I:n<as.length:=by rw[u.1];exact T
   obtain⟨b,y⟩:∃b,as[n]?=some b:=⟨_,Mv I⟩;obtain⟨rdx,rl,D,hrl⟩:=u.2 n b r y x;ext;refine⟨_,_,ha,rfl,g,dx,sg,st,as,a,n,b,rfl,B,y,_,rfl,_,_,_,D,(rk.icls r.1).cl,(rk.name r.1).2.1,_,(i' rl r.2 r.1).2.1,k1 _ _ _ ?_ C ⟨_,rfl⟩⟩;unfold nr;rw[MG,x]
  ·intro H3 C l2 J
   rw[Eu e _ (g:=λi=>V.int (nr a i)) (λ_ _=>rfl)];refine⟨e.map (nr a),by rw[ML];exact aT.of ad,?_⟩;rw[m];exact q _ (((S.trans O).trans C).trans (ae J))
theorem gY{rs:Yaa}(h:∀r∈rs,cU r):dw rs:=λq hq=>⟨(h q hq).k4,(h q hq).good.c1,(h q hq).good.c9⟩
inductive Sd(rs:Yaa):bu->TR->bH->Prop
 |cell {n:Nat} {v:RV}:rs[n]?=some (0,v)->Sd rs (.n0 n) (v.n,1,1,v.c) [v.sg]
 |turn {n:Nat} {v:RV} {t:bu} {r c:Nat} {k:Int} {pc:bH}:rs[n]?=some (3,v)->Sd rs t (v.o1,r,c,k) pc->Sd rs (.n1 n t) (v.n,if v.t%2=1 then c else r,if v.t%2=1 then r else c,v.c+k) (turned pc v.t.toNat)
 |beside {n:Nat} {v:RV} {t1 t2:bu} {r c1 c2:Nat} {k1 k2:Int} {q1 q2 pc:bH}:rs[n]?=some (1,v)->Sd rs t1 (v.o1,r,c1,k1) q1->Sd rs t2 (v.o2,r,c2,k2) q2->fj 1 v [q1,q2]=some pc->Sd rs (.n2 n t1 t2) (v.n,r,c1+c2,v.c+(k1+k2)) pc
 |above {n:Nat} {v:RV} {t1 t2:bu} {r1 r2 c:Nat} {k1 k2:Int} {q1 q2 pc:bH}:rs[n]?=some (2,v)->Sd rs t1 (v.o1,r1,c,k1) q1->Sd rs t2 (v.o2,r2,c,k2) q2->fj 2 v [q1,q2]=some pc->Sd rs (.n2 n t1 t2) (v.n,r1+r2,c,v.c+(k1+k2)) pc
theorem pH{p:bH}(h1:fA p1 r c)(h2:fA p2 r' c')(m:fj 1 v [p1,p2]=some p):r=r'/\fA p r (c+c'):=by
 have l:=bD h1.rc h1.r0;have k:=bD h2.rc h2.r0;have e:=h1.rc.1;have b:=h2.rc.1;have a:(if p1.length=p2.length/\(p1.headD []).length+(p2.headD []).length<=6 then some (put2 p1 p2) else none)=some p:=m
 by_cases c0:p1.length=p2.length/\(p1.headD []).length+(p2.headD []).length<=6
 ·rw[q07 c0]at a
  cases a;rw[e,b,l,k]at c0;refine⟨c0.1,⟨⟨by unfold put2;rw[My,q0K,e,b];omega,λx g=>?_⟩,h1.r0,h1.r6,by have:=h1.c0;omega,c0.2⟩⟩;unfold put2 at g;obtain⟨y,j,rfl⟩:=Nf.mp g;have:=List.of_mem_zip j;rw[MT,h1.rc.2 _ this.1,h2.rc.2 _ this.2]
 ·rw[q06 c0]at a;cases a
theorem sR{p:bH}(h1:fA p1 r c)(h2:fA p2 r' c')(m:fj 2 v [p1,p2]=some p):c=c'/\fA p (r+r') c:=by
 have j:=bD h1.rc h1.r0;have g:=bD h2.rc h2.r0;have e:=h1.rc.1;have b:=h2.rc.1;have a:(if(p1.headD []).length=(p2.headD []).length/\p1.length+p2.length<=6 then some (p1++p2) else none)=some p:=m
 by_cases c0:(p1.headD []).length=(p2.headD []).length/\p1.length+p2.length<=6
 ·rw[q07 c0]at a
  cases a;rw[e,b,j,g]at c0;refine⟨c0.1,⟨⟨by rw[MT,e,b],λx hx=>?_⟩,by have:=h1.r0;omega,c0.2,h1.c0,h1.c6⟩⟩;rcases MK.mp hx with hx | hx
  ·exact h1.rc.2 _ hx
  ·rw[h2.rc.2 _ hx];exact c0.1.symm
 ·rw[q06 c0]at a;cases a
theorem Iz{v:RV}(h0:0<=v.t):(v.t%2=1)↔¬ (v.t.toNat%2=0):=by omega
theorem CA{v:RV}{pc:bH}(h0:0<=v.t)(h:fA pc r c):fA (turned pc v.t.toNat) (if v.t%2=1 then c else r) (if v.t%2=1 then r else c):=by
 have hr:=wU h.rc h.r0 h.c0 v.t.toNat;have o:=Iz h0
 by_cases e:v.t.toNat%2=0
 ·rw[q07 e,q07 e]at hr
  rw[q06 (λz=>(o.mp z) e),q06 (λz=>(o.mp z) e)];exact⟨hr,h.r0,h.r6,h.c0,h.c6⟩
 ·rw[q06 e,q06 e]at hr
  rw[q07 (o.mpr e),q07 (o.mpr e)];exact⟨hr,h.c0,h.c6,h.r0,h.r6⟩
theorem Sd.pic{rs:Yaa}(hg:∀r∈rs,cU r){t:bu}{p:TR}{pc:bH}(h:Sd rs t p pc):fA pc p.2.1 p.2.2.1:=by
 induction h with
 | @cell n v e=>
  have:=oU (hg _ (MB e)).good.sg;exact⟨⟨rfl,λx a=>by rw[Mz.mp a];exact this⟩,(show 0<1 by decide),(show 1<=6 by decide),(show 0<1 by decide),(show 1<=6 by decide)⟩
 | @turn n v t r c k pc e _ ih=>exact CA (hg _ (MB e)).good.t0 ih
 |beside e _ _ m ih1 ih2=>exact(pH ih1 ih2 m).2
 |above e _ _ m ih1 ih2=>exact(sR ih1 ih2 m).2
theorem GB(r c:Nat):fw r c=fw c r:=by rw[iL,iL,Nat.mul_comm]
theorem Sd.low{rs:Yaa}(hg:∀r∈rs,cU r){t:bu}{p:TR}{pc:bH}(h:Sd rs t p pc):fw p.2.1 p.2.2.1<=p.2.2.2/\((t.cnt:Nat):Int)<=p.2.2.2:=by
 induction h with
 | @cell n v e=>
  have a:1<=v.c:=(hg _ (MB e)).good.c1;exact⟨by show fw 1 1<=v.c;rw[iL];simp;omega,by show((1:Nat):Int)<=v.c;omega⟩
 | @turn n v t r c k pc e _ ih=>
  have a:1<=v.c:=(hg _ (MB e)).good.c1;have h1:fw r c<=k:=ih.1;have h2:((t.cnt:Nat):Int)<=k:=ih.2;refine⟨?_,by show((t.cnt+1:Nat):Int)<=v.c+k;omega⟩;show fw (if v.t%2=1 then c else r) (if v.t%2=1 then r else c)<=v.c+k
  split
  ·rw[GB];omega
  ·omega
 | @beside n v t1 t2 r c1 c2 k1 k2 q1 q2 pc e _ _ m ih1 ih2=>
  have a:1<=v.c:=(hg _ (MB e)).good.c1;have h1:fw r c1<=k1:=ih1.1;have h2:fw r c2<=k2:=ih2.1;have g:((t1.cnt:Nat):Int)<=k1:=ih1.2;have b:((t2.cnt:Nat):Int)<=k2:=ih2.2;refine⟨?_,by show((t1.cnt+t2.cnt+1:Nat):Int)<=v.c+(k1+k2);omega⟩;show fw r (c1+c2)<=v.c+(k1+k2);rw[iL]at h1 h2 ⊢;rw[Nat.mul_add];omega
 | @above n v t1 t2 r1 r2 c k1 k2 q1 q2 pc e _ _ m ih1 ih2=>
  have a:1<=v.c:=(hg _ (MB e)).good.c1;have h1:fw r1 c<=k1:=ih1.1;have h2:fw r2 c<=k2:=ih2.1;have g:((t1.cnt:Nat):Int)<=k1:=ih1.2;have b:((t2.cnt:Nat):Int)<=k2:=ih2.2;refine⟨?_,by show((t1.cnt+t2.cnt+1:Nat):Int)<=v.c+(k1+k2);omega⟩;show fw (r1+r2) c<=v.c+(k1+k2);rw[iL]at h1 h2 ⊢;rw[Nat.add_mul];omega
theorem bu.dep_cnt:∀t:bu,t.dep<=t.cnt
 | .n0 _=>MU _
 | .n1 _ a=>by have:=bu.dep_cnt a;simp only[bu.dep,bu.cnt];omega
 | .n2 _ a b=>by have:=bu.dep_cnt a;have:=bu.dep_cnt b;simp only[bu.dep,bu.cnt];omega
theorem Sd.gr{t:bu}{pc:bH}(h:Sd rs t p pc):Gr rs t.d p.1 pc p.2.2.2 t.dep:=by
 induction h with
 |cell e=>exact .cell e
 |turn e _ ih=>exact .turn e ih
 |beside e _ _ m ih1 ih2=>exact .pair (.inl rfl) e ih1 ih2 m
 |above e _ _ m ih1 ih2=>exact .pair (.inr rfl) e ih1 ih2 m
theorem Sd.node{rs:Yaa}(hg:∀r∈rs,cU r){t:bu}{p:TR}{pc:bH}(h:Sd rs t p pc):∃(n:Nat) (q:Nat×RV) (ps:List TR),t.i=(n:Int)/\rs[n]?=some q/\q.2.n=p.1/\ps.length=t.ps.length/\ps.length<=2/\(∀(i:Nat) t' p',t.ps[i]?=some t'->ps[i]?=some p'->∃pc',Sd rs t' p' pc'/\p'.2.2.2<p.2.2.2)/\ps∈bT q p.2.1 p.2.2.1 p.2.2.2:=by
 cases h with
 | @cell n v e=>
  refine⟨n,(0,v),[],rfl,e,rfl,rfl,by simp,λi t' p' h=>by simp[bu.ps]at h,?_⟩;show[]∈(if 1=1/\1=1/\v.c=v.c then[[]] else[]);simp
 | @turn n v t r c k pc e s=>
  have l:1<=v.c:=(hg _ (MB e)).good.c1;refine⟨n,(3,v),[(v.o1,r,c,k)],rfl,e,rfl,rfl,by simp,λi t' p' h1 h2=>?_,?_⟩
  ·match i,h1,h2 with
   |0,h1,h2=>cases h1;cases h2;exact⟨_,s,by show k<v.c+k;omega⟩
   |i+1,h1,_=>simp[bu.ps]at h1
  ·show[(v.o1,r,c,k)]∈[[(v.o1,(if v.t%2=1 then(if v.t%2=1 then r else c) else(if v.t%2=1 then c else r)),(if v.t%2=1 then(if v.t%2=1 then c else r) else(if v.t%2=1 then r else c)),v.c+k-v.c)]]
   by_cases o:v.t%2=1<;>simp[o]<;>omega
 | @beside n v t1 t2 r c1 c2 k1 k2 q1 q2 pc e s1 s2 m=>
  have l:1<=v.c:=(hg _ (MB e)).good.c1;have a:=(s1.low hg).1;have j:=(s2.low hg).1;have g:=s1.pic hg;have b:=s2.pic hg;have w:1<=fw r c1:=bR g.r0 g.c0;have u:1<=fw r c2:=bR b.r0 b.c0;have a:fw r c1<=k1:=a;have j:fw r c2<=k2:=j;refine⟨n,(1,v),[(v.o1,r,c1,k1),(v.o2,r,c2,k2)],rfl,e,rfl,rfl,by simp,λi t' p' h1 h2=>?_,?_⟩
  ·match i,h1,h2 with
   |0,h1,h2=>cases h1;cases h2;exact⟨_,s1,by show k1<v.c+(k1+k2);omega⟩
   |1,h1,h2=>cases h1;cases h2;exact⟨_,s2,by show k2<v.c+(k1+k2);omega⟩
   |i+2,h1,_=>simp[bu.ps]at h1
  ·show _∈bc v.o1 v.o2 (fg r (c1+c2)) (v.c+(k1+k2)-v.c)
   have h1:=g.c0;have h2:=b.c0;simp only at h1 h2;refine List.mem_flatMap.mpr ⟨((r,c1),(r,c2)),Nf.mpr ⟨c1-1,List.mem_range.mpr ⋯,?_⟩,Nf.mpr ⟨k1,k_.mpr ⟨a,by show k1<v.c+(k1+k2)-v.c-fw r c2+1;omega⟩,?_⟩⟩
   ·rw[show 1+(c1-1)=c1 by omega,show c1+c2-c1=c2 by omega]
   ·rw[show v.c+(k1+k2)-v.c-k1=k2 by omega]
 | @above n v t1 t2 r1 r2 c k1 k2 q1 q2 pc e s1 s2 m=>
  have l:1<=v.c:=(hg _ (MB e)).good.c1;have a:=(s1.low hg).1;have j:=(s2.low hg).1;have g:=s1.pic hg;have b:=s2.pic hg;have w:1<=fw r1 c:=bR g.r0 g.c0;have u:1<=fw r2 c:=bR b.r0 b.c0;have a:fw r1 c<=k1:=a;have j:fw r2 c<=k2:=j;refine⟨n,(2,v),[(v.o1,r1,c,k1),(v.o2,r2,c,k2)],rfl,e,rfl,rfl,by simp,λi t' p' h1 h2=>?_,?_⟩
  ·match i,h1,h2 with
   |0,h1,h2=>cases h1;cases h2;exact⟨_,s1,by show k1<v.c+(k1+k2);omega⟩
   |1,h1,h2=>cases h1;cases h2;exact⟨_,s2,by show k2<v.c+(k1+k2);omega⟩
   |i+2,h1,_=>simp[bu.ps]at h1
  ·show _∈bc v.o1 v.o2 (fF (r1+r2) c) (v.c+(k1+k2)-v.c)
   have h1:=g.r0;have h2:=b.r0;simp only at h1 h2;refine List.mem_flatMap.mpr ⟨((r1,c),(r2,c)),Nf.mpr ⟨r1-1,List.mem_range.mpr ⋯,?_⟩,Nf.mpr ⟨k1,k_.mpr ⟨a,by show k1<v.c+(k1+k2)-v.c-fw r2 c+1;omega⟩,?_⟩⟩
   ·rw[show 1+(r1-1)=r1 by omega,show r1+r2-r1=r2 by omega]
   ·rw[show v.c+(k1+k2)-v.c-k1=k2 by omega]
theorem Sd.row{rs:Yaa}(hg:∀r∈rs,cU r){t:bu}{p:TR}{pc:bH}(h:Sd rs t p pc)(k16:p.2.2.2<=16):d9 p:=by
 have:=h.pic hg;exact⟨this.r0,this.r6,this.c0,this.c6,k16⟩
theorem A1{rs:Yaa}{p:TR}{n:Nat}{q:Nat×RV}{ps:List TR}(hq:rs[n]?=some q)(hn:q.2.n=p.1)(hps:ps∈bT q p.2.1 p.2.2.1 p.2.2.2)(h0:0<aS (CN rs) ps)(hf:fw p.2.1 p.2.2.1<=p.2.2.2):(n,ps,aS (CN rs) ps)∈aZ rs p:=by
 unfold aZ;rw[q06 ⋯];refine List.mem_flatMap.mpr ⟨n,?_,?_⟩
 ·unfold bS
  exact List.mem_filterMap.mpr ⟨(q,n),List.mem_zipIdx_iff_getElem?.mpr hq,by rw[q07 (by rw[hn])]⟩
 ·unfold cT
  rw[hq];exact List.mem_filterMap.mpr ⟨ps,hps,by rw[q07 h0]⟩
abbrev oK:Stmt:=h_ 12
inductive rT(K:W.Frag)(vs:List V)(H:Hp)(Q:VK)(_E:XK):Prop
 |mk (a:Addr) (p:bH) (r c:Nat) (_:vs=[.ref a]) (_:aT K H a (aJ p)) (_:fL p r c) (_:0<r) (_:c<=64) (_:∀(tp:Addr) (H':Hp),H tp=none->H' tp=some (.tup [V.int (r:Int),V.int (c:Int)])->aE H H'->Q (.ref tp) H')
theorem yx:az ["picture"] ["picture"] (am oK):=by walk_at "c"
theorem yG{f:Addr}(F:cE K "size_of" "size_of" oK f fd)(nb:NB mg):↑aY 1 f fd ["picture"] (rT K):=by
 have sc:=yx;walk_at "f"
 ·obtain⟨a,p,r,c,rfl,l,k,g,hc1,q⟩:=h
  refine⟨_,(aj (aG (aQ (aa (ax aX rfl nb.len aW (aa (al 0) ac)) (aa (ax a_ rfl nb.len aW (aa (au aO (al 0) ai (λ_ _=>rfl)) ac)) ac))))),?_⟩;ext;obtain⟨j,e⟩:=dZ k g;refine⟨_,l,_,l,_,aM (bi j),_,rfl,by rw[ay];exact ao ⋯,ao ⋯,λm b=>?_⟩;rw[aw,k.1,ay,e];exact q m _ b ad (ae b)
abbrev sJ:Stmt:=h_ 42
inductive oQ(R:RC)(CG:Addr)(vs:List V)(H:Hp)(Q:VK)(_E:XK):Prop
 |mk (g:Addr) (v:V) (rs:Yaa) (t:bu) (p:TR) (pc:bH) (_:vs=[.ref g,v]) (_:pA R CG H g v rs t.d pc p.2.2.2) (_:Sd rs t p pc) (_:∀b H',H' b=some (.tup (ce p))->aE H H'->Q (.ref b) H')
theorem BO:az ["grammar","tree","size"] ["grammar","tree"] (am sJ):=by walk_at "c"
theorem Cu{f:Addr}(F:cE K "row_of" "row_of" sJ f fd)(nb:NB mg)(rk:qh K R)(yad:↑cn 1 CG "rule" ["self","k"] (cr R CG))(yaq:↑cW 24 "laid" ["grammar","tree"] (qB R CG))(ybp:↑cW 1 "size_of" ["picture"] (rT K))(ybe:↑cW 25 "cost_of" ["grammar","tree"] (sQ R CG)):↑aY 26 f fd ["grammar","tree"] (oQ R CG):=by
 have sc:=BO;walk_at "f"
 ·obtain⟨g,v,y,t,p,D,rfl,O,sd,q⟩:=h
  refine⟨_,(af (q01 2 sc.nd (aF ybp (hr.mono nofun) rfl aR (aa (aF yaq (hr.mono nofun) rfl aR (aa (al 0) (aa (al 1) ac))) ac)))
   (aj (aG (aA d_ (aA d_ (aQ (aa (bN (bV yad (hr.mono nofun) aR (al 0) (aa (au ar (al 1) ai (λ_ _=>rfl)) ac)) rfl) ac)) (al 2)) (aQ (aa (aF ybe (hr.mono nofun) rfl aR (aa (al 0) (aa (al 1) ac))) ac)))))),?_⟩
  have c:∀r∈y,cU r:=by obtain⟨dx,U,T,B,nm,k,S,c,_⟩:=O;exact c
  have C:=sd.pic c;obtain⟨n,e,ps,hi,hq,hn,_⟩:=sd.node c;symm;refine⟨g,v,y,t.d,D,p.2.2.2,rfl,O,λl0 H1 _ e1 s1=>?_⟩;refine⟨l0,D,p.2.1,p.2.2.1,rfl,aT.of e1,C.rc,C.r0,by have:=C.c6;omega,λtp H2 _ e2 s2=>h1 _ _ ?_⟩;clear h1;have l:=s1.trans s2;have x:=O.up l;obtain⟨dx,U,T,B,nm',k',S,_,h24,ht,_,hd⟩:=id x;obtain⟨a,vs,rfl,G,htr⟩:=bu.val ht;obtain⟨lk,pn,t0,ha,hkk,m,hN,hmm⟩:=id S;have M:n<B.length:=by rw[m.1];exact(Mw.mp hq).1
  obtain⟨b,u⟩:∃b,B[n]?=some b:=⟨_,Mv M⟩;obtain⟨rdx,rl,I,hrl⟩:=m.2 n b e u hq;ext;refine⟨_,_,ha,rfl,_,aV.of G,_,fz _ _,g,dx,U,T,B,y,n,b,by rw[hi],S,u,b,rfl,_,_,_,I,(rk.icls e.1).cl,(rk.name e.1).1,_,(i' rl e.2 e.1).1,ao nofun,λp1 L=>?_⟩;have s3:=ae (o:=.tup [V.str (tx e.2.n)]) L;refine i7 (xs:=[V.str (tx e.2.n)]) ad (s3 _ _ e2) (by simp) (by simp) λp2 H4 e4 s4=>?_;have j:=s3.trans s4;refine⟨g,_,y,t.d,D,p.2.2.2,rfl,x.up j,λH5 Z=>⟨ao nofun,λp3 J=>?_⟩⟩;have Y:=ae (o:=.tup [V.int p.2.2.2]) J;refine i7 (Y _ _ (Z _ _ e4)) ad (by simp) (by simp) λp4 H7 e7 s7=>q p4 H7 ?_ ((l.trans j).trans ((Z.trans Y).trans s7));rw[e7,hn]
  rfl
theorem CL(h:kE (ce p) (ce p')=true):p=p':=by
 obtain⟨a,r,c,k⟩:=p;obtain⟨q,e,o,g⟩:=p';unfold kE at h;have h:=(q0L _ _▸h).1;have b:∀j,j<4->_:=λj l=>Ng.mp h j (List.mem_range.mpr l);have h1:tx a=tx q:=by have:=b 0 nofun;simpa[ce,rE]using this
 have h2:r=e:=by have:=b 1 nofun;simp[ce,rE]at this;omega
 have n:c=o:=by have:=b 2 nofun;simp[ce,rE]at this;omega
 have m:k=g:=by have:=b 3 nofun;simpa[ce,rE]using this
 have:=iM h1;subst this h2 n m
 rfl
theorem ow(p:TR):(ce p).all jM=true:=rfl
theorem CU{ps ps':List TR}:pT (ps.map ce) (ps'.map ce)=true↔ps=ps':=by
 refine⟨λh=>?_,λh=>?_⟩
 ·unfold pT at h
  split at h
  ·rename_i hl
   rw[My,My]at hl;refine List.ext_getElem hl λi h1 h2=>?_;have:=Ng.mp h i (List.mem_range.mpr (by rw[My];exact h1));rw[MA,MA,Mv h1,Mv h2]at this;exact CL this
  ·cases h
 ·rw[h]
  refine uN λr hr=>?_;obtain⟨p,_,rfl⟩:=Nf.mp hr;exact ow p
theorem Ia.fl{ps:List TR}(h:Ia H l ps):Ik K H l (ps.map ce):=by
 obtain⟨bs,o,h1,h2,e⟩:=h;refine⟨bs,.inl (.inr ⟨o,h1⟩),by rw[My,h2],λi b r g a=>?_⟩;rw[MA]at a;obtain⟨p,c,rfl⟩:=MY.mp a;exact⟨aV.of (e i b p g c),ow p⟩
theorem sK.fl{ps:List TR}(h:sK H l ps):Ik K H l (ps.map ce):=by
 obtain⟨bs,h1,h2,e⟩:=h;refine⟨bs,aT.of h1,by rw[My,h2],λi b r g a=>?_⟩;rw[MA]at a;obtain⟨p,c,rfl⟩:=MY.mp a;exact⟨aV.of (e i b p g c),ow p⟩
theorem BZ{ps:List TR}{k j:Nat}{ts:List bu}{t:bu}(hl:ps.length<=1)(h1:(bE F ps)[k]?=some ts)(h2:(F p)[j]?=some t):(bE F (ps++[p]))[k*(F p).length+j]?=some (ts++[t]):=by
 have b:=(Mw.mp h2).1
 match ps,hl,h1 with
 | [],_,h1=>
  have:k=0/\ts=[]:=by
   cases k with
   |zero=>exact⟨rfl,by simpa[bE]using h1.symm⟩
   |succ k=>simp[bE]at h1
  obtain⟨rfl,rfl⟩:=this;show(bE F [p])[0*(F p).length+j]?=_;rw[iW,Nat.zero_mul,Nat.zero_add,h2]
  rfl
 | [p1],_,h1=>
  rw[iW]at h1;obtain⟨t1,a,rfl⟩:=MY.mp h1;refine tW (F:=F) ?_ ?_
  ·rw[Nat.add_comm,Nat.add_mul_div_right _ _ ⋯,Nat.div_eq_of_lt b,Nat.zero_add];exact a
  ·rw[Nat.add_comm,Nat.add_mul_mod_self_right,Nat.mod_eq_of_lt b];exact h2
theorem F9{q:Nat×RV}{p1 p2:TR}(h4:q.1<4)(hc:1<=q.2.c)(ok:d9 p)(h:[p1,p2]∈bT q p.2.1 p.2.2.1 p.2.2.2):p1.2.2.2<=7\/p2.2.2.2<=7:=by
 have:=ok.k16;rcases dA h4 ok.r1 ok.c1 h with e | ⟨p',e,_⟩ | ⟨_,z,f,sz,f1,f2,e⟩
 ·cases e
 ·cases e
 ·cases e
  show f<=7\/p.2.2.2-q.2.c-f<=7;omega
theorem qM{α:Type}{l:List α}{i:Nat}{x:α}(h:l[i]?=some x):l.take (i+1)=l.take i++[x]:=by rw[q0D,h];rfl
abbrev bY:Stmt:=fG 41 7
inductive b8(R:RC)(CG CT:Addr)(n:Nat)(vs:List V)(H:Hp)(Q:VK)(_E:XK):Prop
 |mk (a dx g dg d1 d2:Addr) (sg st:Nu) (as:Ny) (rs:Yaa) (m:Nat) (v:V) (t:bu) (p:TR) (pc:bH) (_:vs=[.ref a,v]) (_:hV R CG CT H a dx g dg d1 d2 sg st as rs m) (_:bg H t.d v) (_:t.dep<=n) (_:(∀r∈rs,cU r)) (_:Sd rs t p pc) (_:sM st rs m p) (_:∀(k:Nat) H',(RT rs p)[k]?=some t->ck d1 d2 H H'->eG st rs m H' d1 d2->Q (.int (k:Int)) H')
theorem jK:az ["self","tree","rows","within","row","part","passed","number","others","many"] ["self","tree"] (am bY):=by walk_at "c"
theorem pZ{f CT yaa:Addr}{n:Nat}(hn:n<18)(F:cE K "number_in" "TreeRows.number_in" bY f fd)(nb:NB mg)(ct:fY K CT)(nt:av K CT "grammar"/\av K CT "steps"/\av K CT "totals")(yaA:↑cW 26 "row_of" ["grammar","tree"] (oQ R CG))
  (yal:cn P w K mg base (bI P w) 71 CT "steps_of" ["self","row"] (bX R CG CT yaa 17)) (yag:cn P w K mg base (bI P w) 72 CT "many_in" ["self","row"] (bA R CG CT yaa 17)) (yaK:cn P w K mg base (bI P w) (73+n) CT "number_in" ["self","tree"] (b8 R CG CT n)) :
  aY P w K mg base (bI P w) (73+n+1) f fd ["self","tree"] (b8 R CG CT (n+1)):=by
 have sc:=jK;walk_at "x"
 ·obtain⟨a,dx,g,dg,d1,d2,sg,st,as,C,m,v,t,p,pc,rfl,_⟩:=h;rfl
 ·obtain⟨a,dx,g,dg,d1,d2,sg,st,as,C,m,v,t,p,pc,rfl,r,ht,hd,a1,sd,dp,q⟩:=h
  have hu:=hr.units;refine⟨_,(af (jA (i:=2) ["part"] [0] sc.nd rfl (Or.inl rfl) rfl  rfl (bB.of (by kernel_rfl)) (by kernel_rfl) (wb (cJ kD (al 1) (cP ai) eC))
    (λ_ _ _ _=>(aD (i:=0) (by show(["part","self"]:List Str).Nodup;decide +kernel) rfl (Or.inl rfl))) (λ_ _ _ _=>bK) (λ_ _ _ _=>(aF (CX:=bI P w) yaA.lift (hr.mono ⋯) rfl bj (aa (Az (K:=K) rfl (al 1) rfl) (aa (al 0) ac)))))
   (af (q01 3 sc.nd ai)
   (af (bL PassesOwn.leaving rfl (FY rfl nb.zip (aa (al 2) (aa (cJ kD (al 1) (cP ai) eC) ac))) (gb (n:=2) rfl (aU (q02 4 sc.nd) (aU (q02 5 sc.nd) cY)))
   (aj (q01 3 sc.nd (aA (br.m0 bP) (aA (br.m1 fK) (al 3) (bV yag (hr.mono ⋯) (bo λ_ _ _ h=>h) (al 0) (aa (al 4) ac))) (bV yaK (hr.mono ⋯) (bo λ_ _ _ h=>h) (al 0) (aa (al 5) ac))))))
   (af (q01 6 sc.nd ai)
   (af (bL PassesOwn.leaving rfl (cG (bV yal (hr.mono ⋯) (bo λ_ _ _ h=>h) (al 0) (aa (aF (CX:=bI P w) yaA.lift (hr.mono ⋯) rfl bj (aa (bN (al 0) rfl) (aa (al 1) ac))) ac))) (gb (n:=3) rfl (aU (q02 7 sc.nd) (aU (q02 8 sc.nd) (aU (q02 9 sc.nd) cY))))
   (af (bp (aH (Hm hu) (aQ (aa (al 7) (aa (al 8) ac))) (aQ (aa (au ar (al 1) ai (λ_ _=>rfl)) (aa (al 2) ac))) (aL _))
   (aj D0)
   aN)
   (aj (q01 6 sc.nd (aA (br.m0 bP) (al 6) (al 9))))))
   (aj (aG (aA (br.m0 bP) (al 6) (al 3))))))))),?_⟩
  obtain⟨ta,vs,rfl,d0,b1⟩:=bu.val ht;obtain⟨nn,q0,ps,hi,hq,g2,g0,g1,f9,a0⟩:=sd.node a1;have hvl:=lu b1;have d4:=sd.low a1;have hdc:=t.dep_cnt;have k16:=dp.k16;have ok:=dp.row r.m6;obtain⟨q4,qc,qc9⟩:=r.gc q0 (MB hq);have hcut:t.cnt<=1000:=by omega
  have c2:∀(i:Nat) S,t.ps[i]?=some S->∃p' J,ps[i]?=some p'/\Sd C S p' J/\sM st C m p'/\p'.2.2.2<=15/\S.dep<=n/\S.cnt<=1000:=λi S G=>by
   have u:=(Mw.mp G).1;have c:ps[i]?=some (ps[i]'⋯):=Mv ⋯;obtain⟨J,L,lt'⟩:=f9 i S _ G c;have hm:=bu.lt (MB G);have:=bR ok.r1 ok.c1;exact⟨_,J,c,L,(dp.part r.gc (MB hq) ⋯ a0 (MB c)).1,⋯,⋯,⋯⟩
  symm;refine⟨_,aV.of d0,nh _ _,λpt f7=>?_⟩;rw[Ek];have s1:=ae (o:=.tup vs) f7;have e1:aC H pt (.tup vs) pt=some (.tup vs):=ad;generalize aC H pt (.tup vs)=H1 at s1 e1 ⊢;refine⟨⟨_,aV.of e1⟩,?_⟩;refine xL (xs:=vs) (λi O σ H'=>aE H1 H'/\i<=vs.length/\(∃bs:List Addr,O=bs.map V.ref/\bs.length=i/\∀(j:Nat) b p',bs[j]?=some b->ps[j]?=some p'->H' b=some (.tup (ce p')))/\∃z,σ=[z,some (V.ref a)])
   ⟨aE.refl _,MV _,⟨[],rfl,rfl,λj b p' h=>by simp at h⟩,_,rfl⟩ (λi O σ H' h=>by obtain⟨_,h1,⟨bs,rfl,h2,_⟩,_⟩:=h;rw[My,h2];exact MP (M7 _) (ao ⋯)) (λi O σ H' h=>h.2.1) (λi O σ H' h=>aV.of (h.1 _ _ e1)) ?_ ?_
  ·rintro i x O σ H2 hx ⟨sm,d5,⟨bs,rfl,b3,a6⟩,z,rfl⟩
   obtain⟨S,G,b0⟩:=kY b1 hx;obtain⟨p',J,c,L,M,_,d6,g4⟩:=c2 i S G;have s2:=s1.trans sm;ext;refine⟨CT,dx,_,s2 _ _ r.at_,ct.cl,nt.1,_,rfl,g,x,C,S,p',J,rfl,⟨dg,sg,st,as,_,_,r.gr.up s2,a1,r.n24,b0.up (du.of s2) _,L.gr,⋯⟩,L,λb H5 hb s5=>⟨sm.trans s5,(Mw.mp hx).1,bs++[b],by rw[MJ];rfl,by rw[MT,b3];rfl,λj b' p2 e1 e2=>?_⟩⟩;rcases Nat.lt_or_ge j bs.length with hj | hj
   ·rw[MS hj]at e1
    exact s5 _ _ (a6 j b' p2 e1 e2)
   ·have:j=bs.length:=by have:=(Mw.mp e1).1;simp at this;omega
    subst this;rw[MR (MU _),Nat.sub_self]at e1;cases e1;rw[b3,c]at e2;cases e2;exact hb
  ·rintro O σ H2 ⟨sm,_,⟨bs,rfl,b3,a6⟩,z,rfl⟩ l hl
   refine h1 _ _ ?_;clear h1;have s2:=(s1.trans sm).trans (ae (o:=.lst (bs.map V.ref)) hl);have hT:sK (aC H2 l (.lst (bs.map V.ref))) l ps:=⟨bs,ad,⋯,λi b p' e1 e2=>ae hl _ _ (a6 i b p' e1 e2)⟩;generalize aC H2 l (.lst (bs.map V.ref))=H3 at s2 hT ⊢;clear a6;symm;refine h1 _ _ ?_;grind;have a7:=s2 _ _ d0;refine⟨_,aV.of a7,nh _ _,λpu f6=>?_⟩;rw[Ek];have s3:=ae (o:=.tup vs) f6;have e3:aC H3 pu (.tup vs) pu=some (.tup vs):=ad;generalize aC H3 pu (.tup vs)=H4 at s3 e3 ⊢;have a3:=s2.trans s3;have B:=r.up a3;have e0:=hT.kp (Kp.of s3);obtain⟨cs,d7,g5,g6⟩:=id e0;have c6:=aP.up (du.of a3) _ b1;refine⟨_,aT.of d7,_,aV.of e3,?_⟩;refine CB (xs:=cs.map V.ref) (ys:=vs) (by rw[My];omega) (λi σ H'=>ck d1 d2 H4 H'/\eG st C m H' d1 d2/\i<=cs.length/\∃(U:Nat) (y z:Option V),(bE (RT C) (ps.take i))[U]?=some (t.ps.take i)/\σ=[some (V.ref a),some (V.ref ta),some (V.ref l),some (V.int (U:Int)),y,z,none,none,none,none])
    ⟨λ_ _ _ _ e=>e,B.mm,MV _,0,_,_,by rw[No,No];rfl,rfl⟩ (λi σ H' _ h=>⟨aT.of ((B.kp h.1).lst d7),aV.of ((B.kp h.1).tup e3)⟩) ?_ ?_
   ·rintro i x y σ H5 T hx hy ⟨sD,mm,d5,U,z1,z2,D,rfl⟩ h4
    have u:i<cs.length:=by have:=(Mw.mp hx).1;rwa [My]at this
    rw[MA,Mv u]at hx;cases hx;obtain⟨S,G,b0⟩:=kY c6 hy;obtain⟨p',J,c,L,M,hk15,d6,g4⟩:=c2 i S G;have hb:=g6 i cs[i] p' (Mv u) c;generalize cs[i]'u=b at hb ⊢;have sT:=ae (o:=.tup [V.ref b,y]) h4;have eT:aC H5 T (.tup [V.ref b,y]) T=some (.tup [V.ref b,y]):=ad;generalize aC H5 T (.tup [V.ref b,y])=H6 at sT eT ⊢;have I:=B.next sD mm;have a2:=I.up sT;have Y:ck d1 d2 H4 H6:=sD.trans (.of sT);ext;have g3:i=0\/i=1:=by omega
    have e5:=b6 r.gc (M.row r.m6);refine⟨_,aV.of eT,rfl,_,_,rfl,_,_,rfl,rfl,dx,_,a2.at_,rfl,a,dx,g,dg,d1,d2,b,sg,st,as,C,m,p',rfl,a2,(B.kp Y).tup hb,.inl ⟨M,nofun,⋯,λH7 s7 a4=>⟨_,rfl,?_,dx,_,(a2.next s7 a4).at_,rfl,a,dx,g,dg,d1,d2,sg,st,as,C,m,y,S,p',J,rfl,a2.next s7 a4,b0.up (λb xs e=>(B.kp (Y.trans s7)).tup e) _,d6,a1,L,M,λk H8 hk s8 e8=>⟨_,rfl,(Y.trans s7).trans s8,e8,u,U*CN C p'+k,?_,by push_cast;rfl⟩⟩⟩⟩
    ·rcases g3 with rfl | rfl
     ·left
      have:U=0:=by
       rw[No]at D;cases U with
       |zero=>rfl
       |succ w=>simp[bE]at D
      omega
     ·obtain⟨p1,p2,rfl⟩:∃p1 p2,ps=[p1,p2]:=by
       match ps,g1,(show 1<ps.length by omega) with
       | [p1,p2],_,_=>exact⟨p1,p2,rfl⟩
      cases c;have b4:=(dp.part r.gc (MB hq) (by have:=bR ok.r1 ok.c1;omega) a0 (p':=p1) (by simp)).1;rcases F9 q4 qc ok a0 with h | h
      ·left
       have h64:=r.sm p1 b4.rm b4.cm h;have hw:(bE (RT C) [p1])[U]?=some (t.ps.take 1):=D;rw[iW]at hw;obtain⟨t1,f5,_⟩:=MY.mp hw;have:=(Mw.mp f5).1;rw[b6 r.gc (b4.row r.m6)]at this;omega
      ·right
       have:=r.sm _ M.rm M.cm h;omega
    ·rw[qM c,qM G,<- e5]
     exact BZ (by rw[Na];omega) D hk
   ·rintro σ H5 ⟨sD,mm,_,U,z1,z2,D,rfl⟩
    refine h1 _ _ ?_;grind;refine h1 _ _ ?_;grind;have I:=B.next sD mm;have f0:=B.kp sD;refine⟨dx,_,I.at_,rfl,CT,dx,_,I.at_,ct.cl,nt.1,_,rfl,g,_,C,t,p,pc,rfl,⟨dg,sg,st,as,_,_,I.gr,a1,r.n24,ht.up (λb xs e=>f0.tup (a3 _ _ e)) _,sd.gr,⋯⟩,sd,λb H6 hb s6=>?_⟩;refine⟨a,dx,g,dg,d1,d2,b,sg,st,as,C,m,p,rfl,I.up s6,hb,.inl ⟨dp,nofun,⋯,λl2 H7 s7 a4 _ hZ=>?_⟩⟩;have e7:ck d1 d2 H H7:=(((ck.of a3).trans sD).trans (.of s6)).trans s7;have e6:=(I.up s6).next s7 a4;have c0:=B.kp ((sD.trans (.of s6)).trans s7);have h3:=e0.kp c0;have c9:H7 ta=some (.tup (V.int t.i::vs)):=c0.tup (s3 _ _ a7);rw[My,g5,M',show ps.length=t.ps.length from g0,M']at D;have hsl:=o8 r.gc ok r.n24;obtain⟨ts,o,c4,f3,f4⟩:=id hZ;refine⟨l2,rfl,⟨_,.inl (.inr ⟨o,c4⟩)⟩,?_⟩;refine dh (xs:=ts.map V.ref) (λi σ H'=>aE H7 H'/\(i<=ts.length/\∀(j:Nat) s,j<i->(aZ C p)[j]?=some s->¬ (s.1=nn/\s.2.1=ps))/\∃x y z,σ=[some (V.ref a),some (V.ref ta),some (V.ref l),some (V.int (U:Int)),z1,z2,some (V.int ((((aZ C p).take i).map λs=>s.2.2).sum:Nat)),x,y,z])
     ⟨aE.refl _,⟨MV _,λj s h=>q0N h ⋯⟩,_,_,_,rfl⟩ (λi σ H' _ h=>.inl (.inr ⟨o,h.1 _ _ c4⟩)) ?_ ?_
    ·rintro i x σ H8 hx ⟨s8,⟨d5,b2⟩,x1,y1,w1,rfl⟩
     have u:i<ts.length:=by have:=(Mw.mp hx).1;rwa [My]at this
     rw[MA,Mv u]at hx;cases hx;obtain⟨Z,a5⟩:∃s,(aZ C p)[i]?=some s:=⟨_,Mv ⋯⟩;obtain⟨rl,he,g7⟩:=f4 i _ Z (Mv u) a5;generalize ts[i]'u=t0 at he;have d3:=uy (λs:v9=>s.2.2) _ _ _ a5;have d8:=g7.kz (Kp.of s8).z;have g8:=h3.kp (Kp.of s8);generalize f8:(((aZ C p).take i).map λs=>s.2.2).sum=pas at d3;ext;refine⟨_,aV.of (s8 _ _ he),rfl,_,_,rfl,_,_,rfl,_,_,rfl,rfl,ao nofun,λu1 f2=>?_⟩;have s9:=ae (o:=.tup [V.int (Z.1:Int),V.ref rl]) f2;have e9:aC H8 u1 (.tup [V.int (Z.1:Int),V.ref rl]) u1=some (.tup [V.int (Z.1:Int),V.ref rl]):=ad;generalize aC H8 u1 (.tup [V.int (Z.1:Int),V.ref rl])=H9 at s9 e9 ⊢;refine⟨_,aV.of (s9 _ _ (s8 _ _ c9)),_,fz _ _,ao nofun,λu2 f1=>?_⟩;have a9:=ae (o:=.tup [V.int t.i,V.ref l]) f1;have e4:aC H9 u2 (.tup [V.int t.i,V.ref l]) u2=some (.tup [V.int t.i,V.ref l]):=ad;generalize aC H9 u2 (.tup [V.int t.i,V.ref l])=H10 at a9 e4 ⊢;have sA:=s9.trans a9;refine⟨_,_,_,aV.of (a9 _ _ e9),_,aV.of e4,_,(d8.kz (Kp.of sA).z).fl,_,(g8.kp (Kp.of sA)).fl,?_⟩;have c3:(decide ((Z.1:Int)=t.i)&&pT (Z.2.1.map ce) (ps.map ce))=true↔(Z.1=nn/\Z.2.1=ps):=by
      rw[q0L,q0W,CU,hi];exact⟨λh=>⟨⋯,h.2⟩,λh=>⟨⋯,h.2⟩⟩
     by_cases hk:Z.1=nn/\Z.2.1=ps
     ·rw[q07 (c3.mpr hk)]
      refine h1 _ _ ?_;ext;have a8:=Ev r.gc ok a5 (j:=U) (ts:=t.ps) (by rw[hk.2];exact D);rw[f8,hk.1,<- hi,A5]at a8;have sB:=s8.trans sA;have:=q (pas+U) H10 a8 (e7.trans (.of sB)) (e6.up sB).mm
      push_cast at this
      exact this
     ·rw[q06 (λh=>hk (c3.mp h))]
      refine⟨_,rfl,s8.trans sA,u,λj s hj hs=>?_,by rw[d3];push_cast;rfl⟩;rcases Nat.lt_or_ge j i with h | h
      ·exact b2 j s h hs
      ·have:j=i:=by omega
       subst this;rw[a5]at hs;cases hs;exact hk
    ·rintro σ H8 ⟨_,⟨_,b2⟩,_⟩
     have h0:0<aS (CN C) ps:=by
      have:=(Mw.mp D).1;rw[fM (g:=CN C) λp' c=>b6 r.gc ((dp.part r.gc (MB hq) (by have:=bR ok.r1 ok.c1;omega) a0 c).1.row r.m6)]at this;omega
     obtain⟨j,hj⟩:=List.getElem?_of_mem (A1 hq g2 a0 h0 d4.1);exact q0N ⟨rfl,rfl⟩ (b2 j _ (by rw[My,f3];exact(Mw.mp hj).1) hj)
theorem yg{f CT:Addr}(F:cE K "number_in" "TreeRows.number_in" bY f fd):aY P w K mg base (bI P w) 73 f fd ["self","tree"] (b8 R CG CT 0):=by
 have b:∀{vs:List V} {H:Hp} {Q:VK} {E:XK},¬ b8 R CG CT 0 vs H Q E:=λh=>by
  obtain⟨a,dx,g,dg,d1,d2,sg,st,as,rs,m,v,t,p,pc,_,_,_,h0,_⟩:=h;exact q0N t.dep1 ⋯
 exact F.okX (k:=72) (sp:=b8 R CG CT 0) jK (λvs H Q E h=>q0N h b) (λcdv A outer s H vs Q E hr h=>q0N h b)
theorem mr{f CT yaa:Addr}(F:cE K "number_in" "TreeRows.number_in" bY f fd)(nb:NB mg)(ct:fY K CT)(nt:av K CT "grammar"/\av K CT "steps"/\av K CT "totals")(me:c_ K CT "number_in" f)(b:bU K fd ["self","tree"] [])(yaA:↑cW 26 "row_of" ["grammar","tree"] (oQ R CG))
  (yal:cn P w K mg base (bI P w) 71 CT "steps_of" ["self","row"] (bX R CG CT yaa 17)) (yag:cn P w K mg base (bI P w) 72 CT "many_in" ["self","row"] (bA R CG CT yaa 17)) :
  ∀n,n<=18->cn P w K mg base (bI P w) (73+n) CT "number_in" ["self","tree"] (b8 R CG CT n)
 |0,_=>⟨f,fd,yg F,ct.cl,me,b⟩
 |n+1,h=>⟨f,fd,pZ ⋯ F nb ct nt yaA yal yag (mr F nb ct nt me b yaA yal yag n ⋯),ct.cl,me,b⟩
theorem Dw{CT dg d1 d2:Addr}{st:Nu}(gr:eJ R H CG dg g sg st as rs)(ok:qV st rs m)(s2:aE H H2)(n12:d1≠d2)(ex:H2 x=some (.ins CT dx (IW g d1 d2)))(ed1:H2 d1=some (.dT []))(ed2:H2 d2=some (.dT [])):hV R CG CT H2 x dx g dg d1 d2 sg st as rs m:=
 ⟨ex,n12,gr.up s2,ok.gc,ok.gt,ok.sm,ok.m6,ok.n24,ok.nz,[],[],ed1,ed2,⟨List.nodup_nil,List.nodup_nil,(λk h=>nomatch h),(λk h=>nomatch h),(λp h=>by cases h)⟩,λp v h=>by cases h⟩
abbrev kq:Stmt:=h_ 44
inductive nV(R:RC)(CG:Addr)(vs:List V)(H:Hp)(Q:VK)(_E:XK):Prop
 |mk (g dg:Addr) (sg st:Nu) (as:Ny) (rs:Yaa) (m:Nat) (v:V) (t:bu) (p:TR) (pc:bH) (_:vs=[.ref g,v]) (_:eJ R H CG dg g sg st as rs) (_:qV st rs m) (_:(∀r∈rs,cU r)) (_:bg H t.d v) (_:Sd rs t p pc) (_:sM st rs m p) (_:∀(k:Nat) H',(RT rs p)[k]?=some t->aE H H'->Q (.int (k:Int)) H')
theorem vS:az ["grammar","tree"] ["grammar","tree"] (am kq):=by walk_at "c"
theorem u7{f CT:Addr}(F:cE K "number_of" "number_of" kq f fd)(nb:NB mg)(ct:fY K CT)(nt:av K CT "grammar"/\av K CT "steps"/\av K CT "totals")
  (yaq:↑cW 24 "laid" ["grammar","tree"] (qB R CG)) (yat:↑mw 1 "TreeRows" CT ["self","grammar"] (hU K)) (yaK:cn P w K mg base (bI P w) 89 CT "number_in" ["self","tree"] (b8 R CG CT 16)) :
  aY P w K mg base (bI P w) 90 f fd ["grammar","tree"] (nV R CG):=by
 have sc:=vS;walk_at "x"
 ·obtain⟨g,r,n,l,B,o,m,v,t,p,G,rfl,_⟩:=h;rfl
 ·obtain⟨g,r,n,l,B,o,m,v,t,p,G,rfl,gr,ok,c,ht,sd,dp,q⟩:=h
  have hu:=hr.units;refine⟨_,(af (bF (aF (CX:=bI P w) yaq.lift (hr.mono nofun) rfl bj (aa (al 0) (aa (al 1) ac))))
   (aj (aG (bV yaK (hr.mono nofun) (bo λ_ _ _ h=>h) (ib yat (hr.mono nofun) rfl aR (aa (al 0) ac)) (aa (al 1) ac))))),?_⟩
  have hdc:=t.dep_cnt;have hlow:=(sd.low c).2;have:=dp.k16;symm;refine⟨g,v,o,t.d,G,p.2.2.2,rfl,⟨r,n,l,B,_,_,gr,c,ok.n24,ht,sd.gr,⋯⟩,λl0 Z _ e1 D=>h1 _ _ ?_⟩;clear h1;ext;intro x j hx L J;have a:aE Z (aC (aC Z j (.own x)) x (.ins CT j [])):=(ae L).trans (ae (by rw[aq (Ne.symm J)];exact hx));refine⟨x,CT,j,g,rfl,ad,ct.cl,nt,λU T Y f1 f2 I ex S O sx=>⟨rfl,j,_,ex,rfl,?_⟩⟩;have s2:aE Z Y:=λy u e=>sx y u (aK e hx) (a y u e);have b:=D.trans s2;have te:hV R CG CT Y x j g r U T n l B o m:=Dw gr ok b I ex S O;have M:∀{C},ck U T Y C->aE H C:=λsd y u e=>sd y u (λz=>by rw[z,(D.trans a).free f1]at e;cases e) (λz=>by rw[z,(D.trans a).free f2]at e;cases e) (b y u e);exact⟨x,j,g,r,U,T,n,l,B,o,m,v,t,p,G,rfl,te,ht.up (du.of b) _,⋯,c,sd,dp,λk C hk sd mm=>q k C hk (M sd)⟩
theorem CZ{CT yaa:Addr}{fd1 fd2 fd3 fd4:NA}{t1:Tok}(F1:cE K "many_in" "TreeRows.many_in" cq f1 fd1)(F2:cE K "steps_of" "TreeRows.steps_of" cv f2 fd2)(F3:cE K "reckoned" "TreeRows.reckoned" cw f3 fd3)(F4:cE K "many_together" "TreeRows.many_together" bx f4 fd4)
  (nb:NB mg) (yaj:mg "sum"=none) (yai:mg "MOST"=some (.int 6 t1)) (ct:fY K CT) (nt:av K CT "grammar"/\av K CT "steps"/\av K CT "totals") (me1:c_ K CT "many_in" f1) (me2:c_ K CT "steps_of" f2) (me3:c_ K CT "reckoned" f3) (me4:c_ K CT "many_together" f4)
  (b1:bU K fd1 ["self","row"] []) (b2:bU K fd2 ["self","row"] []) (b3:bU K fd3 ["self","row"] []) (b4:bU K fd4 ["self","rows"] [])
  (yak:↑cW 1 "fewest" ["size"] (iP K)) (yan:cn P w K mg base (bI P w) 1 CG "numbers_of" ["self","name"] (cA R CG yaa)) (yad:↑cn 1 CG "rule" ["self","k"] (cr R CG)) (yap:↑qb 3 "part_rows" (mi R)) :
  cn P w K mg base (bI P w) 71 CT "steps_of" ["self","row"] (bX R CG CT yaa 17):=by
 have a:=j7 F1 F2 F3 F4 nb yaj yai ct nt me1 me2 me3 me4 b1 b2 b3 b4 yak yan yad yap 16;have b:cn P w K mg base (bI P w) 69 CT "many_together" ["self","rows"] (cQ R CG CT 16):=⟨f4,fd4,gm (n:=16) F4 nb a,ct.cl,me4,b4⟩;have c:cn P w K mg base (bI P w) 70 CT "reckoned" ["self","row"] (fh R CG CT yaa 17):=⟨f3,fd3,j6 (n:=16) F3 nb yai ct nt yak yan yad yap b,ct.cl,me3,b3⟩;exact⟨f2,fd2,kP (n:=16) F2 nb yaj ct nt c,ct.cl,me2,b2⟩
abbrev o9:Stmt:=h_ 58
inductive rq(K:W.Frag)(vs:List V)(H:Hp)(Q:VK)(_E:XK):Prop
 |mk (a:Addr) (ns:List Int) (b m:Nat) (_:vs=[.ref a,.int (b:Int),.int (m:Int)]) (_:aT K H a (ns.map V.int)) (_:b<=100) (_:1<=m) (_:m<=100) (_:∀(l:Addr) (cs:List Int) (H':Hp),H l=none->H' l=some (.lst (cs.map V.int))->1<=cs.length->cs.length<=m->aE H H'->Q (.ref l) H')
theorem yD:az ["_law_script","_law_begin","_law_most","_law_many"] ["_law_script","_law_begin","_law_most"] (am o9):=by walk_at "c"
theorem zu{f:Addr}(F:cE K "_law_cells" "_law_cells" o9 f fd)(nb:NB mg)(zka:↑cW 1 "_law_cell" ["_law_script","_law_k"] (ld K)):↑aY 2 f fd ["_law_script","_law_begin","_law_most"] (rq K):=by
 have sc:=yD;walk_at "f"
 ·obtain⟨a,u,b,m,rfl,y,hb,hm1,hm,q⟩:=h
  refine⟨_,(af (q01 3 sc.nd (aA (br.m0 fk) (al 2) (aA (br.m1 cg) (aA (br.m1 bO) (aF zka (hr.mono nofun) rfl aR (aa (al 0) (aI ac))) (al 2)) ai)))
   (aj (aG (b7 ["_law_k"] [0] rfl (bB.of (by kernel_rfl)) (by kernel_rfl) (lz rfl nb.range (aa (al 1) (aa (aA (br.m0 bP) (al 1) (al 3)) ac)))
    (λ_ _ _ _=>(aD (i:=0) (by show(["_law_k","_law_script"]:List Str).Nodup;decide +kernel) rfl (Or.inl rfl))) (λ_ _ _ _=>bK) (λ_ _ _ _=>(aF zka (hr.mono nofun) rfl aR (aa (al 1) (aa (al 0) ac)))))))),?_⟩
  symm;refine⟨a,u,62,rfl,y,⋯,λc=>⟨_,rfl,⋯,h1 _ _ ?_⟩⟩;clear h1;obtain⟨n,B⟩:∃n:Nat,(m:Int)-c%(m:Int)/2=(n:Int):=⟨((m:Int)-c%(m:Int)/2).toNat,by have:=Nk c (b:=(m:Int)) ⋯;have:=Nl c (b:=(m:Int)) ⋯;omega⟩;have hn2:1<=n/\n<=m:=by have:=Nk c (b:=(m:Int)) ⋯;have:=Nl c (b:=(m:Int)) ⋯;omega
  rw[B];ext;refine⟨⋯,⋯,⋯,⋯,?_⟩;rw[show((b:Int)+(n:Int)-(b:Int)).toNat=n by omega];refine dE (λi g σ o=>aE H o/\i<=n/\(∃j:List Int,g=j.map V.int/\j.length=i)/\∃z,σ=[z,some (V.ref a)]) ⟨λ_ _ e=>e,MV _,⟨[],rfl,rfl⟩,_,rfl⟩ ?_ (λi g σ o h=>h.2.1) ?_ ?_
  ·rintro i g σ o ⟨_,x,⟨j,rfl,k⟩,_⟩
   rw[My,k];exact bf ⋯
  ·rintro i g σ o x ⟨p,_,⟨j,rfl,k⟩,z,rfl⟩
   ext;exact⟨a,u,b+i,by simp,p.seq y,⋯,λc=>⟨p,x,⟨j++[c],by simp,by simp[k]⟩⟩⟩
  rintro g σ H4 ⟨r,_,⟨j,rfl,k⟩,_⟩;intro l v;exact q l j _ (r.free v) ad ⋯ ⋯ (r.trans (ae v))
abbrev km:Stmt:=h_ 63
inductive jq(R:RC)(CG:Addr)(vs:List V)(H:Hp)(Q:VK)(_E:XK):Prop
 |mk (l:Addr) (sg st:Nu) (ts:Ny) (rs:Yaa) (_:vs=[.str (tx sg),.str (tx st),.ref l]) (_:dX H l ts rs) (_:(∀r∈rs,cU r)) (_:rs.length<=24) (_:sg.length<=100) (_:st.length<=100) (_:fZ sg st rs=none) (_:∀b db as H',eJ R H' CG db b sg st as rs->aE H H'->Q (.ref b) H')
theorem v5:az ["_law_signs_here","_law_start","_law_rules"] ["_law_signs_here","_law_start","_law_rules"] (am km):=by walk_at "c"
theorem vx{f zda:Addr}(F:cE K "_law_grammar" "_law_grammar" km f fd)(nb:NB mg)(gk:JP K CG)(zHe:↑cW 6 "_law_rule" ["_law_rule_here"] (oF R))(zPc:mw P w K mg base (bI P w) 4 "Grammar" CG ["self","signs","start","rules"] (jl K R zda)):↑aY 7 f fd ["_law_signs_here","_law_start","_law_rules"] (jq R CG):=by
 have sc:=v5;walk_at "f"
 ·obtain⟨l,J,I,ts,M,rfl,o,C,hn,hsg,hst,U,q⟩:=h
  refine⟨_,(aj (aG (ib (CX:=bI P w) zPc (hr.mono nofun) rfl bj (aa (pv 0) (aa (pv 1) (aa (b7 ["_law_rule_here"] [] rfl (bB.of (by kernel_rfl)) (by kernel_rfl) (cG (pv 2))
    (λ_ _ _ _=>(aD (i:=0) (by show(["_law_rule_here"]:List Str).Nodup;decide +kernel) rfl (Or.inl rfl))) (λ_ _ _ _=>bK) (λ_ _ _ _=>(aF zHe (hr.mono nofun) rfl aR (aa (pv 0) ac)))) ac)))))),?_⟩
  ext;refine⟨⟨_,aT.of o.1⟩,zW o C ⋯ λj m L S c B x k p g v=>?_⟩;have n:aE m (aC m c (.lst (j.map V.ref))):=ae B;have D:aC m c (.lst (j.map V.ref)) c=some (.lst (j.map V.ref)):=ad;generalize aC m c (.lst (j.map V.ref))=H3 at n D p g ⊢;have a:aE H3 (aC (aC H3 k (.own x)) x (.ins CG k [])):=(ae g).trans (ae (by rw[aq (Ne.symm v)];exact p));refine⟨x,CG,k,c,J,I,j,M,rfl,ad,gk.cl.cl,gk.na,⋯,⋯,a _ _ D,(S.up n).up a,λr hr=>(C r hr).k4,⋯,(λ_ Y lk pn t G T _ _ _=>⟨rfl,?_⟩),λy O=>nomatch O.symm.trans U⟩;exact q x k _ Y T.f ((L.trans n).trans λb u e=>G b u (aK e p) (a b u e))
abbrev mZ:Stmt:=h_ 64
inductive kJ(K:W.Frag)(vs:List V)(H:Hp)(Q:VK)(_E:XK):Prop
 |mk (a:Addr) (p:bH) (r c t:Nat) (_:vs=[.ref a,.int (t:Int)]) (_:H a=some (.lst (aJ p))) (_:fL p r c) (_:0<r) (_:0<c) (_:r<=64) (_:c<=64) (_:t<8) (_:∀l H',H l=none->H' l=some (.lst (aJ (turned p t)))->aE H H'->Q (.ref l) H')
theorem yi:az ["_law_picture","_law_t","_law_turn","_law_rows","_law_column"] ["_law_picture","_law_t"] (am mZ):=by walk_at "c"
theorem w8{f:Addr}(F:cE K "_law_turned" "_law_turned" mZ f fd)(nb:NB mg):↑aY 1 f fd ["_law_picture","_law_t"] (kJ K):=by
 have sc:=yi;walk_at "f"
 ·obtain⟨a,p,r,c,t,rfl,hS,hp,hr0,hc0,hr1,hc1,ht,q⟩:=h
  refine⟨_,(af (bp (aH (br.m0 jP) (al 1) ai (aL _))
   (aj (jA (i:=0) ["_law_row_here"] [] sc.nd rfl (Or.inl rfl) rfl  rfl (bB.of (by kernel_rfl)) (by kernel_rfl) (cG (al 0))
    (λ_ _ _ _=>(aD (i:=0) (by show(["_law_row_here"]:List Str).Nodup;decide +kernel) rfl (Or.inl rfl))) (λ_ _ _ _=>bK) (λ_ _ _ _=>(so rfl rfl nb.reversed (aa (al 0) ac)))))
   aN)
   (af (bL PassesOwn.never rfl (dl rfl nb.range (aa (aA (br.m1 bO) (al 1) ai) ac)) (q02 2 sc.nd)
   (af (q01 3 sc.nd (bz ac))
   (af (bL PassesOwn.never rfl (dl rfl nb.range (aa (ax a_ rfl nb.len aW (aa (au aO (al 0) ai (λ_ _=>rfl)) ac)) ac)) (aD (i:=4) sc.nd rfl (Or.inr rfl))
   (aj (bF (q03 (al 3) (aa (@AH _ _ _ _ _ _ _ _ (aa (b7 ["_law_row_here"] [4] rfl (bB.of (by kernel_rfl)) (by kernel_rfl) (Ae rfl nb.reversed (aa (al 0) ac))
    (λ_ _ _ _=>(aD (i:=0) (by show(["_law_row_here","_law_column"]:List Str).Nodup;decide +kernel) rfl (Or.inl rfl))) (λ_ _ _ _=>bK) (λ_ _ _ _=>(au oE (al 0) (al 1) (λ_ _=>rfl)))) ac) rfl rfl) ac)))))
   (aj (q01 0 sc.nd (al 3))))))
   (aj (aG (eZ cX rfl nb.list gE (aa (al 0) ac)))))),?_⟩
  refine ak λN2 h2=>?_;have loop:∀(l2:Addr) (p':bH) (H2:Hp) (y1 y2 y3:Option V),H2 l2=some (.lst (aJ p'))->aE H H2->fL p' r c->turned p t=bG (t%4) p'->N2 [some (V.ref l2),some (V.int t),y1,y2,y3] H2:=by
   intro l2 p' H2 y1 y2 y3 hH2 sm2 hp' et;refine h2 _ _ ?_;clear h2;refine ak λN3 h3=>?_;ext;refine⟨⋯,⋯,?_⟩;have e4:((t:Int)%4).toNat=t%4:=by omega
   rw[e4];refine hJ (lo:=0) (n:=t%4) (λi σ H3=>∃(l3:Addr) (x1 x2 x3:Option V),σ=[some (V.ref l3),some (V.int t),x1,x2,x3]/\H3 l3=some (.lst (aJ (bG i p')))/\aE H H3) ⟨l2,_,_,_,rfl,hH2,sm2⟩ ?_ ?_
   ·rintro i σ H3 hi ⟨l3,x1,x2,x3,rfl,h4,sm3⟩
    have hq:=dr i hp' hr0 hc0;obtain⟨r',c',g3,g4,g5,g6⟩:∃r' c',fL (bG i p') r' c'/\0<r'/\r'<=64/\c'<=64:=by
     by_cases hi2:i%2=0
     ·rw[q07 hi2,q07 hi2]at hq;exact⟨r,c,hq,hr0,hr1,hc1⟩
     ·rw[q06 hi2,q06 hi2]at hq;exact⟨c,r,hq,hc0,hc1,hr1⟩
    have hqa:bG (i+1) p'=gC (bG i p'):=(ni 1 i p').symm;generalize bG i p'=pq at h4 g3 hqa;have hl0:0<pq.length:=by rw[g3.1];exact g4
    have hcc:(pq[0]).length=c':=g3.2 _ (MF hl0);have hh:(pq.headD []).length=c':=bD g3 g4;rw[hqa];ext;refine⟨MV _,λlr hlr=>?_⟩;have s4:=ae (o:=.lst []) hlr;have e4:aC H3 lr (.lst []) lr=some (.lst []):=ad;generalize aC H3 lr (.lst [])=H4 at s4 e4 ⊢;have h0:dY (aJ pq) 0=some (V.str (tx pq[0])):=(show dY _ ((0:Nat):Int)=_ from aM (bi hl0));refine⟨_,aT.of (s4 _ _ h4),_,h0,_,rfl,by rw[ay];exact ao ⋯,by rw[ay];omega,by rw[ay];omega,?_⟩;rw[ay,hcc,MG];refine hJ (lo:=0) (n:=c') (λj σ H5=>aE H3 H5/\j<=c'/\H5 lr=some (.lst (aJ ((List.range j).map (col pq))))/\∃y,σ=[some (V.ref l3),some (V.int t),some (V.int (i:Int)),some (V.ref lr),y]) ⟨s4,MV _,e4,_,rfl⟩ ?_ ?_
    ·rintro j σ H5 hj ⟨s5,_,e5,y,rfl⟩
     have hl35:=s5 _ _ h4;ext;have hrow:∀x∈pq,x.length=c':=g3.2;have hpq:pq.length<=64:=by rw[g3.1];exact g5
     refine⟨.inl ⟨rfl,_,aT.of e5⟩,rfl,_,aT.of hl35,xO (xs:=aJ pq) (λn acc σ H'=>H'=H5/\acc=((pq.reverse.take n).map λr=>V.str ⟨#[r.getD j 0]⟩)/\n<=pq.length/\∃x,σ=[x,some (.int (j:Int))]) ⟨rfl,rfl,MV _,_,rfl⟩ ?_ ?_ ?_ ?_ ?_⟩
     ·rintro n acc σ H' ⟨_,rfl,_⟩
      refine bf ?_;rw[My,Na,MO];omega
     ·rintro n acc σ H' ⟨_,_,h,_⟩
      rw[aw];exact h
     ·rintro n acc σ H' ⟨rfl,_⟩
      exact aT.of hl35
     ·rintro n x acc σ H' hx ⟨rfl,rfl,hn,y,rfl⟩
      have hl:n<pq.reverse.length:=by
       have:=(Mw.mp hx).1
       rwa [MO,aw,<- MO (as:=pq)]at this
      have hx':(aJ pq.reverse)[n]?=some x:=by unfold aJ at hx ⊢;rwa [List.map_reverse]
      rw[bi hl]at hx';cases hx';have hm:pq.reverse[n]∈pq:=List.mem_reverse.mp (MF hl);have hr:=hrow _ hm;ext;have hc:(tx pq.reverse[n]).cps.toList[j]?=some (pq.reverse[n].getD j 0):=by rw[io,q0A,Mv ⋯];rfl
      refine⟨by rw[ay];exact ao ⋯,_,aM hc,?_,by rw[MO]at hl;exact hl⟩;rw[q0D,Mv hl,MJ]
      rfl
     ·rintro acc σ H' ⟨rfl,rfl,_⟩ l hl
      rw[aw,<- MO (as:=pq),M']at *;refine⟨(col pq j).map λc=>(⟨#[c]⟩:Str),.inl (aT.of ?_),?_,_,ae hl _ _ e5,?_,?_,hj,?_⟩
      ·rw[ad];unfold col;rw[ML,ML];rfl
      ·rw[ML]
       have e:((λy:Str=>y.length)∘λc=>(⟨#[c]⟩:Str))=λ_=>1:=by funext c;rfl
       rw[e,List.map_const',List.sum_replicate_nat,My];have e0:(Str.ofString "").length=0:=rfl;rw[e0];unfold col;rw[My];omega
      ·rw[aw,My,q0G];exact bf ⋯
      ·exact dP (s5.trans (ae hl)) hlr
      ·rw[ad,gF,q0J,MJ]
       exact q0O (λz=>some (HO.lst z)) (fD _ _).symm
    ·rintro σ H5 ⟨s5,_,e5,y,rfl⟩
     ext;refine⟨?_,sm3.trans s5⟩;rw[e5];unfold gC;rw[hh]
   ·rintro σ H3 ⟨l3,x1,x2,x3,rfl,h4,sm3⟩
    refine h3 _ _ ?_;ext;exact⟨_,.inl (aT.of h4),λl hl=>q l _ (sm3.free hl) (by rw[ad,et]) (sm3.trans (ae hl))⟩
  ext;have hpl:p.length=r:=hp.1
  split
  ·rename_i h4
   refine⟨⟨_,aT.of hS⟩,?_⟩;refine gL (as:=p) (emb:=λx=>V.str (tx x)) (f:=λx=>some (V.str (tx x.reverse))) (λσ=>∃x,σ=[x]) ⟨_,rfl⟩ (λH' sm=>aT.of (sm _ _ hS)) ⋯ ?_ ?_
   ·rintro i x hx σ H' M1 M0 ⟨y,rfl⟩ sm k1 k0
    ext;have hxl:x.length=c:=hp.2 x (MB hx);refine⟨by rw[ay];omega,nofun,k1 _ _ _ ?_ sm ⟨_,rfl⟩⟩;rw[io,gF]
   ·intro H' sm l hl
    rw[jD];have em:p.map (λx=>V.str (tx x.reverse))=aJ (mirror p):=by unfold aJ mirror;rw[ML];rfl
    rw[em];refine loop l (mirror p) _ _ _ _ ad (sm.trans (ae hl)) (iu hp) ?_;unfold turned;rw[q07 ⋯]
  ·rename_i h4
   refine loop a p H _ _ _ hS (aE.refl _) hp ?_;unfold turned;rw[q06 ⋯]
abbrev mB:Stmt:=h_ 65
inductive ku(vs:List V)(H:Hp)(Q:VK)(_E:XK):Prop
 |mk (a b:Addr) (p q:bH) (r c r' c':Nat) (sd:Bool) (mo:Int) (_:vs=[.ref a,.ref b,.bl sd,.int mo]) (_:H a=some (.lst (aJ p))) (_:H b=some (.lst (aJ q))) (_:fA p r c) (_:fA q r' c') (_:mo<=6) (_:(∀pc,(∀v:RV,fj (if sd then 1 else 2) v [p,q]=some pc)->cS H pc Q)) (_:∀H',(mo=6->∀v:RV,fj (if sd then 1 else 2) v [p,q]=none)->aE H H'->Q .non H')
theorem w4:az ["_law_one","_law_other","_law_side","_law_most"] ["_law_one","_law_other","_law_side","_law_most"] (am mB):=by walk_at "c"
theorem yc{f:Addr}(F:cE K "_law_joined" "_law_joined" mB f fd)(nb:NB mg):↑aY 1 f fd ["_law_one","_law_other","_law_side","_law_most"] ku:=by
 have sc:=w4;walk_at "f"
 ·obtain⟨a,b,p,q,r,c,r',c',sd,mo,rfl,G,D,k,j,hmo,a2,no⟩:=h
  have hp:=k.rc;have hq:=j.rc;have:=k.r6;have:=k.c6;have:=j.r6;have:=j.c6;have J:=bD hp k.r0;have I:=bD hq j.r0;refine⟨_,(af (bp (PW.pt (m7 (gi (al 2) λ_=>rfl) (m7 (aH c7 (ax aX rfl nb.len aW (aa (al 0) ac)) (ax aX rfl nb.len aW (aa (al 1) ac)) (aL _)) (og (aH (br.m0 mj) (aA (br.m0 bP) (ax a_ rfl nb.len aW (aa (au aO (al 0) ai (λ_ _=>rfl)) ac)) (ax a_ rfl nb.len aW (aa (au aO (al 1) ai (λ_ _=>rfl)) ac))) (al 3) (aL _))))))
   (aj (aG (b7 ["_law_left","_law_right"] [] rfl (bB.of (by kernel_rfl)) (by kernel_rfl) (Fm rfl nb.zip (aa (al 0) (aa (al 1) ac)))
    (λ_ _ _ _=>(qq (K:=K) (n:=2) rfl rfl (aU (aD (i:=0) (by show(["_law_left","_law_right"]:List Str).Nodup;decide +kernel) rfl (Or.inl rfl)) (aU (aD (i:=1) (by show(["_law_left","_law_right"]:List Str).Nodup;decide +kernel) rfl (Or.inl rfl)) cY)))) (λ_ _ _ _=>bK) (λ_ _ _ _=>(aA jv (al 0) (al 1))))))
   aN)
   (af (bp (PW.pt (m7 (fq (gi (al 2) λ_=>rfl)) (m7 (aH c7 (ax a_ rfl nb.len aW (aa (au aO (al 0) ai (λ_ _=>rfl)) ac)) (ax a_ rfl nb.len aW (aa (au aO (al 1) ai (λ_ _=>rfl)) ac)) (aL _)) (og (aH (br.m0 mj) (aA (br.m0 bP) (ax aX rfl nb.len aW (aa (al 0) ac)) (ax aX rfl nb.len aW (aa (al 1) ac))) (al 3) (aL _))))))
   (aj (aG (aA oM (eZ cX rfl nb.list gE (aa (al 0) ac)) (eZ cX rfl nb.list gE (aa (al 1) ac)))))
   aN)
   (aj (aG f_)))),?_⟩
  obtain⟨a3,a0⟩:=dZ hp k.r0;obtain⟨Y,u⟩:=dZ hq j.r0;have m:p.length=r:=hp.1;have M:q.length=r':=hq.1;have h0:dY (aJ p) 0=some (V.str (tx p[0])):=(show dY _ ((0:Nat):Int)=_ from aM (bi a3));have a1:dY (aJ q) 0=some (V.str (tx q[0])):=(show dY _ ((0:Nat):Int)=_ from aM (bi Y));refine ak λN1 h1=>?_;have vH:(sd=true->mo=6->∀v:RV,fj (if sd then 1 else 2) v [p,q]=none)->N1 [some (V.ref a),some (V.ref b),some (V.bl sd),some (V.int mo)] H:=λhn=>by
   refine h1 _ _ ?_;clear h1;refine ak λN1 h1=>?_;have vH:(mo=6->∀v:RV,fj (if sd then 1 else 2) v [p,q]=none)->N1 [some (V.ref a),some (V.ref b),some (V.bl sd),some (V.int mo)] H:=λhn=>by
    refine h1 _ _ ?_;ext;exact no H hn (aE.refl _)
   clear h1;ext;cases sd with
   |true=>rw[q06 nofun];exact vH (hn rfl)
   |false=>
    rw[q07 rfl];refine⟨_,aT.of G,_,h0,_,rfl,by rw[ay];exact ao ⋯,_,aT.of D,_,a1,_,rfl,by rw[ay];exact ao ⋯,?_⟩;rw[ay,ay,a0,u];refine eF (λt1=>?_) (λt9=>vH (λh6 v=>by show(if(p.headD []).length=(q.headD []).length/\p.length+q.length<=6 then some (p++q) else none)=none;rw[J,I,q06 ⋯]));refine⟨_,aT.of G,_,aT.of D,?_⟩;rw[aw,aw,m,M];refine eF (λt2=>?_) (λt9=>vH (λh6 v=>by show(if(p.headD []).length=(q.headD []).length/\p.length+q.length<=6 then some (p++q) else none)=none;rw[J,I,q06 ⋯]));refine⟨_,.inl (aT.of G),λl Z=>⟨_,.inl (aT.of (ae Z _ _ D)),λl1 U=>⟨_,ae U _ _ ad,_,ad,?_,λl2 S=>?_⟩⟩⟩
    ·rw[aw,aw];exact ao ⋯
    have s3:=(ae (o:=.lst (aJ p)) Z).trans (ae (o:=.lst (aJ q)) U);refine a2 (p++q) (λv=>?_) l2 _ (ik s3 S) ?_ (s3.trans (ae S))
    ·show(if(p.headD []).length=(q.headD []).length/\p.length+q.length<=6 then some (p++q) else none)=some (p++q)
     rw[J,I,q07 ⋯]
    ·rw[ad];unfold aJ;rw[MJ]
  clear h1;ext;cases sd with
  |false=>rw[q06 nofun];exact vH (λh=>nomatch h)
  |true=>
   rw[q07 rfl];refine⟨_,aT.of G,_,aT.of D,?_⟩;rw[aw,aw,m,M];refine eF (λt1=>?_) (λt9=>vH (λ_ h6 v=>by show(if p.length=q.length/\(p.headD []).length+(q.headD []).length<=6 then some (put2 p q) else none)=none;rw[J,I,q06 ⋯]));refine⟨_,aT.of G,_,h0,_,rfl,by rw[ay];exact ao ⋯,_,aT.of D,_,a1,_,rfl,by rw[ay];exact ao ⋯,?_⟩;rw[ay,ay,a0,u];refine eF (λt2=>?_) (λt9=>vH (λ_ h6 v=>by show(if p.length=q.length/\(p.headD []).length+(q.headD []).length<=6 then some (put2 p q) else none)=none;rw[J,I,q06 ⋯]));refine⟨_,aT.of G,_,aT.of D,?_⟩;have O:q.length=r:=by omega
   have R:(put2 p q).length=r:=by unfold put2;rw[My,q0K,m,O,Nat.min_self]
   refine wP (xs:=aJ p) (ys:=aJ q) (n:=r) (by rw[aw,aw,m,O,Nat.min_self]) (λi g σ L=>aE H L/\g=aJ ((put2 p q).take i)/\i<=r/\∃y z,σ=[y,z]) ⟨λ_ _ e=>e,rfl,MV _,_,_,rfl⟩ ?_ ?_ ?_ ?_ ?_
   ·rintro i g σ L ⟨_,rfl,hi,_⟩
    rw[aw,Na];exact bf ⋯
   ·rintro i g σ L ⟨_,_,h,_⟩
    exact h
   ·rintro i g σ L ⟨B,_⟩
    exact⟨aT.of (B _ _ G),aT.of (B _ _ D)⟩
   ·rintro i x y g σ L T hx hy ⟨B,rfl,_,y1,z1,rfl⟩ hT
    have hi:i<p.length:=by have:=(Mw.mp hx).1;rwa [aw]at this
    have C:i<q.length:=by omega
    rw[bi hi]at hx;rw[bi C]at hy;cases hx;cases hy;have hrow:=hp.2 _ (MF hi);have yd2:=hq.2 _ (MF C);ext;refine⟨_,aV.of ad,rfl,_,_,rfl,_,_,rfl,rfl,?_⟩;have e:(put2 p q)[i]?=some (p[i]++q[i]):=by
     unfold put2;simp[List.getElem?_zip_eq_some,hi,C];exact⟨_,_,⟨rfl,rfl⟩,rfl⟩
    have et:tx p[i]++tx q[i]=tx (p[i]++q[i]):=by
     show(⟨_++_⟩:Str)=⟨_⟩;simp[tx]
    refine⟨_,rfl,_,rfl,by rw[ay,ay];exact ao ⋯,B.trans (ae hT),?_,⋯⟩;rw[et,q0D,e];exact(fD _ _).symm
   ·rintro g σ L ⟨B,rfl,_⟩ l Z
    refine a2 (put2 p q) (λv=>?_) l _ (B.free Z) ?_ (B.trans (ae Z))
    ·show(if p.length=q.length/\(p.headD []).length+(q.headD []).length<=6 then some (put2 p q) else none)=some (put2 p q)
     rw[J,I,q07 ⋯]
    ·rw[ad,<- R,M']
structure qX(r' r:Nat×RV):Prop where
 k:r'.1=r.1
 sg:r.1=0->r'.2.sg=r.2.sg
 o1:r.1≠0->r'.2.o1=r.2.o1
 o2:r.1=1\/r.1=2->r'.2.o2=r.2.o2
 t:r.1=3->r'.2.t=r.2.t
theorem qX.rfl'(r:Nat×RV):qX r r:=⟨rfl,λ_=>rfl,λ_=>rfl,λ_=>rfl,λ_=>rfl⟩
def n6(r:Nat×RV):List V:=match r.1 with
 |0=>[.int 0,.str (tx r.2.sg),.str ""]
 |1=>[.int 1,.str (tx r.2.o1),.str (tx r.2.o2)]
 |2=>[.int 2,.str (tx r.2.o1),.str (tx r.2.o2)]
 |_=>[.int 3,.str (tx r.2.o1),.int r.2.t]
theorem tZ(r:Nat×RV):iY (fu r) (some 2) none=n6 r:=by
 obtain⟨k,v⟩:=r
 match k with
 |0=>rfl
 |1=>rfl
 |2=>rfl
 |k+3=>rfl
theorem rK(r:Nat×RV):(n6 r).all jM=true:=by
 obtain⟨k,v⟩:=r
 match k with
 |0=>rfl
 |1=>rfl
 |2=>rfl
 |k+3=>rfl
theorem wQ(r:Nat×RV):¬ (HT.sIx (fu r).length 0 (some 2)=0/\HT.sIx (fu r).length (fu r).length none=(fu r).length):=by
 obtain⟨k,v⟩:=r
 match k with
 |0=>exact λh=>by cases h.1
 |1=>exact λh=>by cases h.1
 |2=>exact λh=>by cases h.1
 |k+3=>exact λh=>by cases h.1
theorem lj(h:rE (.str a) (.str b)=true):a=b:=by
 have c:(a==b)=true:=h;exact eq_of_beq c
theorem Ap{a b:Int}(h:rE (.int a) (.int b)=true):a=b:=by
 have c:(a==b)=true:=h;exact eq_of_beq c
theorem gP{x y z x' y' z':V}(h:kE [x,y,z] [x',y',z']=true):rE x x'=true/\rE y y'=true/\rE z z'=true:=by
 have a:(([0,1,2]:List Nat).all (λj=>match([x,y,z]:List V)[j]?,([x',y',z']:List V)[j]? with | some x,some y=>rE x y | _,_=>true)&&true)=true:=h
 simpa using a
theorem xC(r:Nat×RV)(h4:r.1<4):∃y z,n6 r=[.int (r.1:Int),y,z]:=by
 obtain⟨k,v⟩:=r;rcases gu h4 with h | h | h | h<;>(simp only at h;subst h;exact⟨_,_,rfl⟩)
theorem Dh{r' r:Nat×RV}(h4':r'.1<4)(h4:r.1<4)(he:kE (n6 r') (n6 r)=true):qX r' r:=by
 have c:r'.1=r.1:=by
  obtain⟨y,z,e⟩:=xC r h4;obtain⟨y',z',g⟩:=xC r' h4';rw[e,g]at he;have:=Ap (gP he).1;omega
 obtain⟨b,a⟩:=r';obtain⟨k,v⟩:=r;have e:b=k:=c;subst e;rcases gu h4 with h | h | h | h<;>(simp only at h;subst h)
 ·have:=gP (show kE [.int 0,.str (tx a.sg),.str ""] [.int 0,.str (tx v.sg),.str ""]=true from he)
  exact⟨rfl,λ_=>iM (lj this.2.1),λh=>q0N rfl h,λh=>(by rcases h with h | h<;>cases h),λh=>(by cases h)⟩
 ·have:=gP (show kE [.int 1,.str (tx a.o1),.str (tx a.o2)] [.int 1,.str (tx v.o1),.str (tx v.o2)]=true from he)
  exact⟨rfl,λh=>(by cases h),λ_=>iM (lj this.2.1),λ_=>iM (lj this.2.2),λh=>(by cases h)⟩
 ·have:=gP (show kE [.int 2,.str (tx a.o1),.str (tx a.o2)] [.int 2,.str (tx v.o1),.str (tx v.o2)]=true from he)
  exact⟨rfl,λh=>(by cases h),λ_=>iM (lj this.2.1),λ_=>iM (lj this.2.2),λh=>(by cases h)⟩
 ·have:=gP (show kE [.int 3,.str (tx a.o1),.int a.t] [.int 3,.str (tx v.o1),.int v.t]=true from he)
  exact⟨rfl,λh=>(by cases h),λ_=>iM (lj this.2.1),λh=>(by rcases h with h | h<;>cases h),λ_=>Ap this.2.2⟩
abbrev oN:Stmt:=h_ 66
inductive qL(vs:List V)(H:Hp)(Q:VK)(_E:XK):Prop
 |mk (l t:Addr) (b:Bool) (ts:Ny) (rs:Yaa) (r:Nat×RV) (_:vs=[.ref l,.ref t,.bl b]) (_:dX H l ts rs) (_:(∀x∈rs,x.1<4)) (_:H t=some (.tup (fu r))) (_:r.1<4) (_:rs.length<24) (_:(∀(k:Nat) r' H',rs[k]?=some r'->qX r' r->aE H H'->Q (.int (k:Int)) H')) (_:(∀H0,aE H H0->Q (.int (rs.length:Int)) (aC H0 l (.lst (ts.map V.ref++[V.ref t])))))
theorem zM:az ["_law_rules","_law_wanted","_law_again","_law_k","_law_rule_here"] ["_law_rules","_law_wanted","_law_again"] (am oN):=by walk_at "c"
theorem zz{f:Addr}(F:cE K "_law_noted" "_law_noted" oN f fd)(nb:NB mg):↑aY 1 f fd ["_law_rules","_law_wanted","_law_again"] qL:=by
 have sc:=zM;walk_at "f"
 ·obtain⟨l,t,b,U,G,r,rfl,a,M,ht,L,hl24,q1,q3⟩:=h
  have hu:=hr.units;refine⟨_,(af (bp (gi (al 2) λ_=>rfl)
   (aj (bL PassesOwn.never rfl (nL rfl nb.enumerate (aa (al 0) ac)) (gb (n:=2) rfl (aU (q02 3 sc.nd) (aU (q02 4 sc.nd) cY)))
   (aj (bp (aH (DO hu) (cJ kD (al 4) (cP ai) eC) (cJ kD (al 1) (cP ai) eC) (aL _))
   (aj (aG (al 3)))
   aN))))
   aN)
   (af (bF (q03 (al 0) (aa (al 1) ac)))
   (aj (aG (aA (br.m0 fk) (ax aX rfl nb.len aW (aa (al 0) ac)) ai))))),?_⟩
  refine ak λN1 h1=>?_;have D:∀{p m:Option V} {c:Hp},aE H c->N1 [some (V.ref l),some (V.ref t),some (V.bl b),p,m] c:=fun{p m c} g=>by
   refine h1 _ _ ?_;ext;have B:=g _ _ a.1;have y:(U.map V.ref).length=G.length:=by rw[My];exact a.2.1
   refine⟨.inl ⟨rfl,_,aT.of B⟩,_,B,?_,_,aT.of ad,?_⟩
   ·rw[y];exact bf ⋯
   ·have:=q3 c g
    rw[MT,y];rw[show(((G.length+[V.ref t].length:Nat):Int)-1)=(G.length:Int) by simp];exact this
  ext;cases b with
  |false=>rw[q06 nofun];exact D (aE.refl _)
  |true=>
   rw[q07 rfl];refine⟨_,aT.of a.1,?_⟩;refine lw (xs:=U.map V.ref) (λi σ c=>aE H c/\∃p m,σ=[some (V.ref l),some (V.ref t),some (V.bl true),p,m]) ⟨λ_ _ e=>e,_,_,rfl⟩ ?_ ?_ ?_
   ·rintro i σ c _ ⟨g,_⟩
    exact aT.of (g _ _ a.1)
   ·rintro i x σ c T hx ⟨g,p,m,rfl⟩ hT
    rw[MA]at hx;obtain⟨q,v,rfl⟩:=MY.mp hx;obtain⟨j,k⟩:∃j,G[i]?=some j:=⟨_,Mv (by have:=(Mw.mp v).1;have:=a.2.1;omega)⟩;have J:=g _ _ (a.2.2 i q j v k);have I:=ae (o:=.tup [V.int (i:Int),V.ref q]) hT;have C:aC c T (.tup [V.int (i:Int),V.ref q]) T=some (.tup [V.int (i:Int),V.ref q]):=ad;generalize aC c T (.tup [V.int (i:Int),V.ref q])=H1 at I C ⊢;ext;have u:=g.trans I;refine⟨_,aV.of C,rfl,_,_,rfl,_,_,rfl,rfl,q,rfl,_,aV.of (I _ _ J),wQ j,λc1 S=>?_⟩;rw[tZ];have sC:=ae (o:=.tup (n6 j)) S;refine⟨_,aV.of (sC _ _ (u _ _ ht)),wQ r,λc2 R=>?_⟩;rw[tZ];have Z:=ae (o:=.tup (n6 r)) R;refine⟨_,aV.of (Z _ _ ad),_,aV.of ad,rK j,rK r,?_⟩;have Y:=(u.trans sC).trans Z
    by_cases O:kE (n6 j) (n6 r)=true
    ·rw[q07 O]
     exact q1 i j _ k (Dh (M _ (MB k)) L O) Y
    ·rw[q06 O];exact Y
   ·rintro σ c ⟨g,p,m,rfl⟩
    exact D g
structure SI where
 t:bu
 nm:List Nat
 p:bH
 c:Int
structure FI where
 a:Addr
 v:V
 lp:Addr
 x:SI
def FI.at(z:FI)(H:Hp):Prop:=H z.a=some (.tup [z.v,.str (tx z.x.nm),.ref z.lp,.int z.x.c])/\bg H z.x.t.d z.v/\H z.lp=some (.lst (aJ z.x.p))/\z.x.p≠[]
theorem FI.at.up{z:FI}(h:z.at H)(s:aE H H'):z.at H':=⟨s _ _ h.1,h.2.1.up (du.of s) _,s _ _ h.2.2.1,h.2.2.2⟩
def fU(l:Addr)(H H':Hp):Prop:=∀y u,y≠l->H y=some u->H' y=some u
theorem fU.of(s:aE H H'):fU l H H':=λy u _ e=>s y u e
theorem fU.trans(a:fU l H H1)(b:fU l H1 H2):fU l H H2:=λy u n e=>b y u n (a y u n e)
theorem fU.put:fU l H (aC H l o):=λy u n e=>by rw[aq n];exact e
theorem fU.tups(s:fU l H H'){as:Ny}(hl:H l=some (.lst (as.map V.ref))):du H H':=λb xs h=>s b _ (λz=>by rw[z,hl]at h;cases h) h
theorem FI.at.keep{z:FI}{as:Ny}(h:z.at H)(hl:H l=some (.lst (as.map V.ref)))(s:fU l H H'):z.at H':=
 ⟨s.tups hl _ _ h.1,h.2.1.up (s.tups hl) _,s _ _ (zw hl h.2.2.1 h.2.2.2) h.2.2.1,h.2.2.2⟩
structure DW(rs:Yaa)(p:bH)(lim:Int)(x:SI):Prop where
 sd:∃r c,Sd rs x.t (x.nm,r,c,x.c) x.p
 nm:x.nm∈p
 le:x.c<=lim
theorem Sd.more(r:Nat×RV){t:bu}{p:TR}{pc:bH}(h:Sd rs t p pc):Sd (rs++[r]) t p pc:=by
 have up:∀{n:Nat} {x:Nat×RV},rs[n]?=some x->(rs++[r])[n]?=some x:=fun{n x} e=>by rw[MS (Mw.mp e).1];exact e
 induction h with
 |cell e=>exact .cell (up e)
 |turn e _ ih=>exact .turn (up e) ih
 |beside e _ _ m ih1 ih2=>exact .beside (up e) ih1 ih2 m
 |above e _ _ m ih1 ih2=>exact .above (up e) ih1 ih2 m
inductive Nx(r:Nat×RV):List SI->bH->Prop
 |cell:r.1=0->Nx r [] [r.2.sg]
 |turn {x:SI}:r.1=3->x.nm=r.2.o1->Nx r [x] (turned x.p r.2.t.toNat)
 |pair {x y:SI} {pc:bH}:(r.1=1\/r.1=2)->x.nm=r.2.o1->y.nm=r.2.o2->fj r.1 r.2 [x.p,y.p]=some pc->Nx r [x,y] pc
theorem Nx.sd{rs:Yaa}(hg:∀r∈rs,cU r){n:Nat}{r r':Nat×RV}{ys:List SI}{pc:bH}(h:Nx r ys pc)(e:rs[n]?=some r')(as:qX r' r)(hy:∀y∈ys,∃a c,Sd rs y.t (y.nm,a,c,y.c) y.p) :
  ∃a c,Sd rs (ye (n:Int) (ys.map SI.t)) (r'.2.n,a,c,r'.2.c+(ys.map SI.c).sum) pc:=by
 obtain⟨o,b⟩:=r';obtain⟨k,v⟩:=r;have C:o=k:=as.k;subst C;cases h with
 |cell h=>
  have h:o=0:=h;subst h;have:=as.sg rfl;have h1:Sd rs (.n0 n) (b.n,1,1,b.c) [b.sg]:=.cell e;rw[show b.sg=v.sg from this]at h1;have g:b.c=b.c+(([]:List SI).map SI.c).sum:=by simp
  rw[g]at h1;exact⟨_,_,h1⟩
 | @turn x h l=>
  have h:o=3:=h;subst h;obtain⟨a,c,s⟩:=hy x (by simp);have B:b.o1=v.o1:=as.o1 (show(3:Nat)≠0 by decide);have w:b.t=v.t:=as.t rfl;have l:x.nm=b.o1:=by rw[B];exact l
  rw[l]at s;have h1:=Sd.turn e s;rw[w]at h1;have g:x.c=([x].map SI.c).sum:=by simp
  rw[g]at h1;exact⟨_,_,h1⟩
 | @pair x y _ h l j m=>
  obtain⟨a,c,s⟩:=hy x (by simp);obtain⟨G,D,q⟩:=hy y (by simp);have l:x.nm=b.o1:=by rw[show b.o1=v.o1 from as.o1 (by rcases h with h | h<;>(have h:o=_:=h;subst h;exact λz=>by cases z))];exact l
  have j:y.nm=b.o2:=by rw[show b.o2=v.o2 from as.o2 h];exact j
  rw[l]at s;rw[j]at q;rcases h with h | h
  ·have h:o=1:=h
   subst h;have u:fj 1 b [x.p,y.p]=some pc:=m;have g:a=G:=(pH (s.pic hg) (q.pic hg) u).1;subst g;have h1:=Sd.beside e s q u;have g:x.c+y.c=([x,y].map SI.c).sum:=by simp
   rw[g]at h1;exact⟨_,_,h1⟩
  ·have h:o=2:=h
   subst h;have u:fj 2 b [x.p,y.p]=some pc:=m;have g:c=D:=(sR (s.pic hg) (q.pic hg) u).1;subst g;have h1:=Sd.above e s q u;have g:x.c+y.c=([x,y].map SI.c).sum:=by simp
   rw[g]at h1;exact⟨_,_,h1⟩
theorem Nx.ne{pc:bH}(h:Nx r ys pc):ys.length<=2:=by cases h<;>simp
structure GS(H:Hp)(p:bH)(sg:Nu)(lim:Int)(lr ls:Addr)(ts:Ny)(rs:Yaa)(zs:List FI):Prop where
 rows:dX H lr ts rs
 ro:∀r∈rs,mh p sg r
 st:H ls=some (.lst (zs.map λz=>V.ref z.a))
 at_:∀z∈zs,z.at H
 good:∀z∈zs,DW rs p lim z.x
 ne:lr≠ls
theorem GS.up{lim:Int}{lr ls:Addr}(g:GS H p sg lim lr ls ts rs zs)(s:aE H H'):GS H' p sg lim lr ls ts rs zs:=
 ⟨g.rows.up s,g.ro,s _ _ g.st,λz hz=>(g.at_ z hz).up s,g.good,g.ne⟩
theorem GS.st'{lim:Int}{lr ls:Addr}(g:GS H p sg lim lr ls ts rs zs):H ls=some (.lst ((zs.map FI.a).map V.ref)):=by rw[ML];exact g.st
theorem GS.row{lim:Int}{lr ls:Addr}(g:GS H p sg lim lr ls ts rs zs){t:Addr}{r:Nat×RV}(ht:H t=some (.tup (fu r)))(hr:mh p sg r):GS (aC H lr (.lst (ts.map V.ref++[V.ref t]))) p sg lim lr ls (ts++[t]) (rs++[r]) zs:=
 ⟨g.rows.app ht,λx hx=>by rcases MK.mp hx with h | h;exact g.ro x h;rw[Mz.mp h];exact hr,by rw[aq g.ne.symm];exact g.st,λz hz=>(g.at_ z hz).keep g.rows.1 fU.put,λz hz=>⟨let ⟨a,c,s⟩:=(g.good z hz).sd;⟨a,c,s.more r⟩,(g.good z hz).nm,(g.good z hz).le⟩,g.ne⟩
theorem GS.item{lim:Int}{lr ls:Addr}(g:GS H p sg lim lr ls ts rs zs){z:FI}(hz:z.at H)(hg:DW rs p lim z.x):GS (aC H ls (.lst (zs.map (λz=>V.ref z.a)++[V.ref z.a]))) p sg lim lr ls ts rs (zs++[z]):=by
 have b:fU ls H (aC H ls (.lst (zs.map (λz=>V.ref z.a)++[V.ref z.a]))):=fU.put;refine⟨⟨b _ _ g.ne g.rows.1,g.rows.2.1,λi t r j e=>b.tups g.st' _ _ (g.rows.2.2 i t r j e)⟩,g.ro,by rw[ad,MJ];rfl,λy c=>?_,λy c=>?_,g.ne⟩
 ·rcases MK.mp c with h | h
  ·exact(g.at_ y h).keep g.st' b
  ·rw[Mz.mp h];exact hz.keep g.st' b
 ·rcases MK.mp c with h | h
  ·exact g.good y h
  ·rw[Mz.mp h];exact hg
def Ej(lr ls:Addr)(H H':Hp):Prop:=∀y u,y≠lr->y≠ls->H y=some u->H' y=some u
abbrev wk:Stmt:=h_ 67
inductive rR(vs:List V)(H:Hp)(Q:VK)(_E:XK):Prop
 |mk (lr ls tw la tm lq:Addr) (b:Bool) (ts:Ny) (rs:Yaa) (zs ys:List FI) (r:Nat×RV) (pc:bH) (p:bH) (sg:Nu) (lim:Int) (_:vs=[.ref lr,.ref ls,.ref tw,.bl b,.ref la,.ref tm]) (_:GS H p sg lim lr ls ts rs zs) (_:H tw=some (.tup (fu r))) (_:mh p sg r) (_:rs.length<24) (_:zs.length<=100) (_:H la=some (.lst (ys.map λz=>V.ref z.a))) (_:la≠lr) (_:la≠ls) (_:(∀y∈ys,y∈zs)) (_:H tm=some (.tup [.ref lq,.int lim])) (_:H lq=some (.lst (aJ pc))) (_:pc≠[]) (_:Nx r (ys.map FI.x) pc) (_:∀H' ts' rs' zs',GS H' p sg lim lr ls ts' rs' zs'->Ej lr ls H H'->rs'.length<=rs.length+1->zs'.length<=zs.length+1->(zs≠[]\/(rs=[]/\r.1=0/\r.2.c<=lim)->zs'≠[])->Q .non H')
theorem DU:az ["_law_rules","_law_stock","_law_wanted","_law_again","_law_parts","_law_made","_law_k","_law_cost_here"] ["_law_rules","_law_stock","_law_wanted","_law_again","_law_parts","_law_made"] (am wk):=by walk_at "c"
theorem qA(r:Nat×RV):dY (fu r) 0=some (.str (tx r.2.n))/\dY (fu r) 1=some (.int r.2.c):=by
 obtain⟨k,v⟩:=r
 match k with
 |0=>exact⟨rfl,rfl⟩
 |1=>exact⟨rfl,rfl⟩
 |2=>exact⟨rfl,rfl⟩
 |k+3=>exact⟨rfl,rfl⟩
theorem Nx.cell0{pc:bH}(h:Nx r ys pc)(h1:r.1=0):ys=[]:=by
 cases h with
 |cell _=>rfl
 |turn e=>rw[h1]at e;cases e
 |pair e=>rw[h1]at e;rcases e with e | e<;>cases e
theorem ya:∀{ys:List FI},(∀z∈ys,z.at H)->aP H (((ys.map FI.x).map SI.t).map bu.d) (ys.map λz=>z.v)
 | [],_=>by unfold aP;rfl
 |z::ys,h=>by
  show aP H (z.x.t.d::_) (z.v::_);exact aP.cons (h z q0B).2.1 (ya λy hy=>h y (MN _ hy))
theorem DD{f:Addr}(F:cE K "_law_put" "_law_put" wk f fd)(nb:NB mg)(yaj:mg "sum"=none)(zXd:↑cW 1 "_law_noted" ["_law_rules","_law_wanted","_law_again"] qL):↑aY 2 f fd ["_law_rules","_law_stock","_law_wanted","_law_again","_law_parts","_law_made"] rR:=by
 have sc:=DU;walk_at "f"
 ·obtain⟨lr,ls,tw,la,tm,lq,b,ts,rs,zs,j,r,pc,p,sg,a0,rfl,g,a2,a6,c9,hz100,c4,b2,nls,a1,c1,b0,a7,nx,q⟩:=h
  have hu:=hr.units;refine⟨_,(af (q01 6 sc.nd (aF zXd (hr.mono nofun) rfl aR (aa (al 0) (aa (al 2) (aa (al 3) ac)))))
   (af (q01 7 sc.nd (aA (br.m0 bP) (au ar (au aO (al 0) (al 6) (λ_ _=>rfl)) ai (λ_ _=>rfl)) (ax (li rfl) rfl yaj uU (aa (b7 ["_law_part"] [] rfl (bB.of (by kernel_rfl)) (by kernel_rfl) (cG (al 4))
    (λ_ _ _ _=>(aD (i:=0) (by show(["_law_part"]:List Str).Nodup;decide +kernel) rfl (Or.inl rfl))) (λ_ _ _ _=>bK) (λ_ _ _ _=>(au (wv (K:=K) rfl) (al 0) ai (λ_ _=>rfl)))) ac))))
   (aj (bp (aH (br.m0 mj) (al 7) (au ar (al 5) ai (λ_ _=>rfl)) (aL _))
   (aj (bF (q03 (al 1) (aa (aQ (aa (aA d_ (aQ (aa (al 6) ac)) (eZ tE rfl nb.tuple xi (aa (b7 ["_law_part"] [] rfl (bB.of (by kernel_rfl)) (by kernel_rfl) (cG (al 4))
    (λ_ _ _ _=>(aD (i:=0) (by show(["_law_part"]:List Str).Nodup;decide +kernel) rfl (Or.inl rfl))) (λ_ _ _ _=>bK) (λ_ _ _ _=>(au (wv (K:=K) rfl) (al 0) ai (λ_ _=>rfl)))) ac))) (aa (au ar (au aO (al 0) (al 6) (λ_ _=>rfl)) ai (λ_ _=>rfl)) (aa (au ar (al 5) ai (λ_ _=>rfl)) (aa (al 7) ac))))) ac))))
   aN)))),?_⟩
  refine ak λN1 h1=>?_;have go:∀(k:Nat) (m:Nat×RV) (D:Ny) (B:Yaa) (H1:Hp),GS H1 p sg a0 lr ls D B zs->B[k]?=some m->qX m r->B.length<=rs.length+1->fU lr H H1->(rs=[]->m=r)->N1 [some (V.ref lr),some (V.ref ls),some (V.ref tw),some (V.bl b),some (V.ref la),some (V.ref tm),some (V.int (k:Int)),none] H1:=by
   intro k m D B H1 G S Z R hE a8;refine h1 _ _ ?_;clear h1;have C:=hE _ _ b2 c4;have M:=hE.tups g.rows.1 _ _ c1;have a9:=hE _ _ (zw g.rows.1 b0 a7) b0;have b4:=nx.ne;rw[My]at b4;obtain⟨tk,a3⟩:∃tk,D[k]?=some tk:=⟨_,Mv (by have:=(Mw.mp S).1;have:=G.rows.2.1;omega)⟩;have b1:dY (D.map V.ref) (k:Int)=some (V.ref tk):=aM (by rw[MA,a3];rfl);have O:=G.rows.2.2 k tk m a3 S;symm;have U:∀y∈j,y.at H1:=λy hy=>G.at_ y (a1 y hy);refine⟨_,aT.of G.rows.1,_,b1,_,rfl,_,aV.of O,_,(qA m).2,⟨_,aT.of C⟩,?_⟩;refine gL (as:=j) (emb:=λz=>V.ref z.a) (f:=λz=>some (V.int z.x.c)) (λσ=>∃x,σ=[x]) ⟨_,rfl⟩ (λH' s=>aT.of (s _ _ C)) ⋯ ?_ ?_
   ·rintro i z T σ H' M1 M0 ⟨y,rfl⟩ sm k1 k0
    ext;exact⟨_,aV.of (sm _ _ (U z (MB T)).1),_,rfl,k1 _ _ _ rfl sm ⟨_,rfl⟩⟩
   intro H2 s2 l hl;rw[jD];refine⟨j.map λz=>z.x.c,by rw[ML];exact aT.of ad,_,rfl,h1 _ _ ?_⟩;clear h1;have s3:=s2.trans (ae (o:=.lst (j.map λz=>V.int z.x.c)) hl);generalize aC H2 l (.lst (j.map λz=>V.int z.x.c))=H3 at s3 ⊢;clear s2 hl H2;have g3:=G.up s3;have a4:(j.map λz=>z.x.c).sum=((j.map FI.x).map SI.c).sum:=by rw[ML];rfl
   have a5:=nx.sd (λr hr=>(G.ro r hr).good) S Z λy hy=>by
    obtain⟨z,T,rfl⟩:=Nf.mp hy;exact(G.good z (a1 z T)).sd
   rw[a4];generalize Y:m.2.c+((j.map FI.x).map SI.c).sum=cost at a5 ⊢;have hB:∀{H4},aE H3 H4->Ej lr ls H H4:=λs4 y u n1 _ e=>s4 _ _ (s3 _ _ (hE y u n1 e));ext;refine⟨_,aV.of (s3 _ _ M),_,rfl,_,rfl,?_⟩;refine eF (λt1=>?_) (λt1=>?_)
   ·refine⟨.inl ⟨rfl,_,aT.of g3.st⟩,ao nofun,λp1 c2=>?_⟩
    have s4:=ae (o:=.tup [V.int (k:Int)]) c2;have e4:aC H3 p1 (.tup [V.int (k:Int)]) p1=some (.tup [V.int (k:Int)]):=ad;generalize aC H3 p1 (.tup [V.int (k:Int)])=H4 at s4 e4 ⊢;have I:=s3.trans s4;refine⟨⟨_,aT.of (I _ _ C)⟩,?_⟩;refine gL (as:=j) (emb:=λz=>V.ref z.a) (f:=λz=>some z.v) (λσ=>∃x,σ=[x]) ⟨_,rfl⟩ (λH' s=>aT.of (s _ _ (I _ _ C))) ⋯ ?_ ?_
    ·rintro i z T σ H' M1 M0 ⟨y,rfl⟩ sm k1 k0
     ext;exact⟨_,aV.of (sm _ _ (I _ _ (U z (MB T)).1)),_,rfl,k1 _ _ _ rfl sm ⟨_,rfl⟩⟩
    intro H5 s5 l hl;rw[jD];refine⟨_,.inl ⟨aT.of ad,λl4 c6=>?_⟩⟩;have sB:=(ae (o:=.lst (j.map λz=>z.v)) hl).trans (ae (o:=.tup (j.map λz=>z.v)) c6);refine i7 (sB _ _ (s5 _ _ e4)) ad (by simp) (by simp;omega) λtr H6 c0 s6=>?_;have L:=I.trans ((s5.trans sB).trans s6);have g6:=G.up L;refine⟨_,aT.of g6.rows.1,_,b1,_,rfl,_,aV.of (L _ _ O),_,(qA m).1,_,aV.of (L _ _ M),_,rfl,ao nofun,λnp c3=>?_⟩;have s7:=ae (o:=.tup [V.ref tr,V.str (tx m.2.n),V.ref lq,V.int cost]) c3;have e7:aC H6 np (.tup [V.ref tr,V.str (tx m.2.n),V.ref lq,V.int cost]) np=some (.tup [V.ref tr,V.str (tx m.2.n),V.ref lq,V.int cost]):=ad;generalize aC H6 np (.tup [V.ref tr,V.str (tx m.2.n),V.ref lq,V.int cost])=H7 at s7 e7 ⊢;have J:=L.trans s7;have g7:=G.up J;have b3:FI.at ⟨np,V.ref tr,lq,⟨ye (k:Int) ((j.map FI.x).map SI.t),m.2.n,pc,cost⟩⟩ H7:=by
     refine⟨e7,?_,J _ _ a9,a7⟩;refine bu.of (vs:=j.map λz=>z.v) ?_ ?_
     ·show H7 tr=some (.tup (.int (ye (k:Int) ((j.map FI.x).map SI.t)).i::_))
      rw[AT];exact s7 _ _ c0
     ·show aP H7 ((ye (k:Int) ((j.map FI.x).map SI.t)).ps.map bu.d) _
      rw[EI _ (by simp;omega)];exact ya λz T=>((U z T).up J)
    have gd:DW B p a0 ⟨ye (k:Int) ((j.map FI.x).map SI.t),m.2.n,pc,cost⟩:=⟨a5,(G.ro _ (MB S)).n,t1⟩;refine⟨_,g7.st,by rw[My];exact bf ⋯,?_⟩;exact q _ D B _ (g7.item b3 gd) (λy u n1 n2 e=>by rw[aq n2];exact J _ _ (hE y u n1 e)) R (by simp) (λ_=>by simp)
   ·refine q H3 D B zs g3 (hB (aE.refl _)) R ⋯ λh=>?_
    rcases h with h | ⟨h0,h1,h2⟩
    ·exact h
    ·refine q0N ?_ t1
     have er:=a8 h0;subst er;rw[<- Y];rw[nx.cell0 h1]
     simpa using h2
  clear h1;ext;refine⟨lr,tw,b,ts,rs,r,rfl,g.rows,λx hx=>(g.ro x hx).good.k4,a2,a6.good.k4,c9,λk m H1 S Z s1=>?_,λH0 s0=>?_⟩
  ·exact go k m ts rs H1 (g.up s1) S Z ⋯ (.of s1) (λe=>by rw[e]at S;simp at S)
  ·exact go rs.length r _ _ _ ((g.up s0).row (s0 _ _ a2) a6) (by simp) (qX.rfl' r) (by simp) ((fU.of s0).trans fU.put) (λ_=>rfl)
abbrev rD:Stmt:=h_ 68
inductive uf(vs:List V)(H:Hp)(Q:VK)(_E:XK):Prop
 |mk (lr ls td lb:Addr) (ts:Ny) (rs:Yaa) (zs:List FI) (p:bH) (sg:Nu) (c dear side lim:Int) (_:vs=[.ref lr,.ref ls,.int c,.ref td]) (_:GS H p sg lim lr ls ts rs zs) (_:H td=some (.tup [.str (tx sg),.ref lb,.int dear,.int side,.int lim])) (_:H lb=some (.lst (aJ p))) (_:p.length=4) (_:(∀r∈p,dF r=true)) (_:dI sg=true) (_:1<=dear) (_:dear<=9) (_:dear<=lim) (_:side<=6) (_:rs.length<24) (_:zs.length<=100) (_:∀H' ts' rs' zs',GS H' p sg lim lr ls ts' rs' zs'->Ej lr ls H H'->rs'.length<=rs.length+1->zs'.length<=zs.length+1->(zs≠[]\/rs=[]->zs'≠[])->Q .non H')
theorem Ce:az ["_law_rules","_law_stock","_law_cell_here","_law_drawn","_law_signs_here","_law_names_here","_law_dear","_law_side","_law_limit","_law_kind","_law_again","_law_name","_law_cost_here","_law_rest","_law_sign","_law_one","_law_made","_law_other","_law_way","_law_picture"] ["_law_rules","_law_stock","_law_cell_here","_law_drawn"] (am rD):=by walk_at "c"
theorem CP{f:Addr}(F:cE K "_law_step" "_law_step" rD f fd)(nb:NB mg)(zkc:↑cW 2 "_law_put" ["_law_rules","_law_stock","_law_wanted","_law_again","_law_parts","_law_made"] rR)(zJa:↑cW 1 "_law_turned" ["_law_picture","_law_t"] (kJ K))(zKa:↑cW 1 "_law_joined" ["_law_one","_law_other","_law_side","_law_most"] ku):↑aY 3 f fd ["_law_rules","_law_stock","_law_cell_here","_law_drawn"] uf:=by
 have sc:=Ce;walk_at "f"
 ·obtain⟨lr,ls,td,lb,ts,rs,U,p,sg,c,G,a2,m,rfl,g,f9,g3,hp4,c3,f0,hd1,hd9,hdl,g1,f2,a4,q⟩:=h
  have hu:=hr.units;refine⟨_,(af (Fr (al 3) (gb (n:=5) rfl (aU (q02 4 sc.nd) (aU (q02 5 sc.nd) (aU (q02 6 sc.nd) (aU (q02 7 sc.nd) (aU (q02 8 sc.nd) cY)))))))
   (af (q01 9 sc.nd (aA (br.m1 bO) (al 2) ai))
   (af (q01 10 sc.nd (gw c7 (aA (br.m1 bO) (aA (br.m1 cg) (al 2) ai) ai) ai (aL _)))
   (af (q01 11 sc.nd (au aO (al 5) (aA (br.m1 bO) (aA (br.m1 cg) (al 2) ai) ai) (λ_ _=>rfl)))
   (af (q01 12 sc.nd (aA (br.m0 bP) ai (aA (br.m1 bO) (aA (br.m1 cg) (al 2) ai) (al 6))))
   (af (q01 13 sc.nd (aA (br.m1 cg) (aA (br.m1 cg) (al 2) ai) (al 6)))
   (af (bp (PW.pt (fm (aH c7 (al 9) ai (aL _)) (fB (aH c7 (ax aX rfl nb.len aW (aa (al 1) ac)) ai (aL _)))))
   (af (q01 14 sc.nd (au oE (al 4) (aA (br.m1 bO) (al 13) (ax a_ rfl nb.len aW (aa (al 4) ac))) (λ_ _=>rfl)))
   (af (bF (aF zkc (hr.mono nofun) rfl aR (aa (al 0) (aa (al 1) (aa (aQ (aa (al 11) (aa (al 12) (aI (aa (al 14) (bJ ac)))))) (aa (al 10) (aa (bz ac) (aa (aQ (aa (bz (aa (al 14) ac)) (aa (al 8) ac))) ac))))))))
   (aj vB)))
   aN)
   (af (q01 15 sc.nd (au aO (al 1) (aA (br.m1 bO) (al 13) (ax aX rfl nb.len aW (aa (al 1) ac))) (λ_ _=>rfl)))
   (af (q01 13 sc.nd (aA (br.m1 cg) (al 13) (ax aX rfl nb.len aW (aa (al 1) ac))))
   (af (bp (aH c7 (al 9) ai (aL _))
   (af (q01 16 sc.nd (aQ (aa (aF zJa (hr.mono nofun) rfl aR (aa (au ar (al 15) ai (λ_ _=>rfl)) (aa (aA (br.m1 bO) (al 13) ai) ac))) (aa (al 8) ac))))
   (af (bF (aF zkc (hr.mono nofun) rfl aR (aa (al 0) (aa (al 1) (aa (aQ (aa (al 11) (aa (al 12) (aI (aa (au ar (al 15) ai (λ_ _=>rfl)) (aa (aA (br.m1 bO) (al 13) ai) ac)))))) (aa (al 10) (aa (bz (aa (al 15) ac)) (aa (al 16) ac))))))))
   (aj vB)))
   aN)
   (af (q01 17 sc.nd (au aO (al 1) (aA (br.m1 bO) (al 13) (ax aX rfl nb.len aW (aa (al 1) ac))) (λ_ _=>rfl)))
   (aj (bL PassesOwn.never rfl (wb (aQ (aa (al 9) (aa (aA (br.m0 fk) ai (al 9)) ac)))) (q02 18 sc.nd)
   (af (q01 19 sc.nd (aF zKa (hr.mono nofun) rfl aR (aa (au ar (al 15) ai (λ_ _=>rfl)) (aa (au ar (al 17) ai (λ_ _=>rfl)) (aa (gw c7 (al 18) ai (aL _)) (aa (al 7) ac))))))
   (aj (bp (aH uX (al 19) f_ (aL _))
   (af (bF (aF zkc (hr.mono nofun) rfl aR (aa (al 0) (aa (al 1) (aa (aQ (aa (al 11) (aa (al 12) (aa (al 18) (aa (au ar (al 15) ai (λ_ _=>rfl)) (aa (au ar (al 17) ai (λ_ _=>rfl)) ac)))))) (aa (al 10) (aa (bz (aa (al 15) (aa (al 17) ac))) (aa (aQ (aa (al 19) (aa (al 8) ac))) ac))))))))
   (aj vB))
   aN)))))))))))))))),?_⟩
  symm;refine⟨_,aV.of f9,rfl,_,_,rfl,_,_,rfl,_,_,rfl,_,_,rfl,_,_,rfl,rfl,h1 _ _ ?_⟩;grind;refine h1 _ _ ?_;grind;refine h1 _ _ ?_;grind;have hsl:=jG f0;have e6:∀x:Int,∃z∈p,dY (aJ p) (x%4)=some (V.str (tx z)):=λx=>by
   obtain⟨j,hj⟩:∃j:Nat,x%4=(j:Int):=⟨_,(Nm (Nk _ ⋯)).symm⟩;have:x%4<4:=Nl _ ⋯;exact⟨p[j]'⋯,MF _,by rw[hj];exact aM (bi ⋯)⟩
  have d4:∀x:Int,∃c∈sg,dY (tx sg).cps.toList (x%(sg.length:Int))=some c:=λx=>by
   rw[io];exact zq (Nk _ ⋯) (Nl _ ⋯)
  have hsz:(tx sg).length<=sizeLine:=by rw[ay];exact ao ⋯
  obtain⟨nm,a6,p1⟩:=e6 (c/8);refine⟨_,aT.of g3,_,p1,h1 _ _ ?_⟩;grind;have c0:0<=c/32%G:=Nk _ ⋯;have c9:c/32%G<G:=Nl _ ⋯;refine⟨⋯,h1 _ _ ?_⟩;clear h1;obtain⟨C,g5⟩:∃C,1+c/32%G=C:=⟨_,rfl⟩;rw[g5];symm;refine⟨⋯,⋯,h1 _ _ ?_⟩;clear h1;generalize c/32/G=re;have gd:∀(k:Nat) (l I:Nu) (J:Nat) (Y:Int),k<4->l∈p->I∈p->J∈sg->0<=Y->Y<=7->mh p sg (k,⟨nm,C,l,I,[J],Y⟩):=λk l I J Y hk h1 h2 h3 t0 t7=>by
   have g:RV.good ⟨nm,C,l,I,[J],Y⟩:=⟨c3 _ a6,by show 1<=C;omega,by show C<=9;omega,c3 _ h1,c3 _ h2,wE f0 h3,t0,t7⟩;exact⟨⟨hk,g,g.small⟩,a6,h1,h2,J,h3,rfl⟩
  generalize hag:decide (c/4%2=0)=ag;have d6:∀{T:List FI} {r:Nat×RV},r.2.c=C->(U≠[]\/(rs=[]/\r.1=0/\r.2.c<=m)->T≠[])->r.1=0\/U≠[]->(U≠[]\/rs=[]->T≠[]):=fun{T r} hc h h0 h1=>by
   refine h ?_;rcases h1 with h1 | h1
   ·exact .inl h1
   ·rcases h0 with h0 | h0
    ·exact .inr ⟨h1,h0,⋯⟩
    ·exact .inl h0
  refine ak λN1 h1=>?_;refine u5 λtb ub et eu=>?_;ext;have b3:∀{D:iT},D.rt=Q->tb D [some (V.ref lr),some (V.ref ls),some (V.int c),some (V.ref td),some (V.str (tx sg)),some (V.ref lb),some (V.int G),some (V.int a2),some (V.int m),some (V.int (c%4)),some (V.bl ag),some (V.str (tx nm)),some (V.int C),some (V.int re),none,none,none,none,none,none] H:=fun{D} hD=>by
   rw[et];ext;rw[ay];obtain⟨J,b0,pc⟩:=d4 re;have f1:sg.length<=sizeLine:=ao ⋯;refine⟨f1,⋯,f1,J,pc,ao nofun,λS Z=>⟨MV _,λR B=>⟨ao nofun,λM a7=>⟨ao nofun,λtm L=>?_⟩⟩⟩⟩;have r0:=gd 0 nm nm J 0 nofun a6 a6 b0 nofun nofun;generalize hr:(⟨nm,C,nm,nm,[J],0⟩:RV)=rv at r0;have e1:aC H S (.tup [V.str (tx nm),V.int C,V.int 0,V.str ⟨#[J]⟩,V.str (Str.ofString "")]) S=some (.tup (fu (0,rv))):=by rw[ad,<- hr];rfl
   have s1:=ae (o:=.tup [V.str (tx nm),V.int C,V.int 0,V.str ⟨#[J]⟩,V.str (Str.ofString "")]) Z;generalize aC H S (.tup [V.str (tx nm),V.int C,V.int 0,V.str ⟨#[J]⟩,V.str (Str.ofString "")])=H1 at s1 e1 B a7 L ⊢;have s2:=ae (o:=.lst []) B;have e2:aC H1 R (.lst []) R=some (.lst []):=ad;generalize aC H1 R (.lst [])=H2 at s2 e2 a7 L ⊢;have s3:=ae (o:=.lst [V.str ⟨#[J]⟩]) a7;have e3:aC H2 M (.lst [V.str ⟨#[J]⟩]) M=some (.lst (aJ [rv.sg])):=by rw[ad,<- hr];rfl
   generalize aC H2 M (.lst [V.str ⟨#[J]⟩])=H3 at s3 e3 L ⊢;have s4:=ae (o:=.tup [V.ref M,V.int m]) L;have e4:aC H3 tm (.tup [V.ref M,V.int m]) tm=some (.tup [V.ref M,V.int m]):=ad;generalize aC H3 tm (.tup [V.ref M,V.int m])=H4 at s4 e4 ⊢;have d7:=s3.trans s4;have d8:=s2.trans d7;have e0:=s1.trans d8;have nl:∀{x u},H x=some u->R≠x:=λe z=>by rw[<- z,ik s1 B]at e;cases e
   refine⟨lr,ls,S,R,tm,M,ag,ts,rs,U,[],(0,rv),[rv.sg],p,sg,m,rfl,g.up e0,d8 _ _ e1,r0,f2,a4,d7 _ _ e2,nl g.rows.1,nl g.st,λy hy=>(nomatch hy),e4,s4 _ _ e3,by simp,Nx.cell rfl,λH' b4 c2 T g' sB l1 l2 c4=>?_⟩;rw[hD];exact q H' b4 c2 T g' (λy u n1 n2 e=>sB y u n1 n2 (e0 _ _ e)) l1 l2 (d6 (by rw[<- hr]) c4 (.inl rfl))
  refine eF (λ_=>b3 rfl) (λk0=>⟨_,aT.of g.st,?_⟩);rw[My];refine eF (λ_=>b3 rfl) (λz0=>?_);clear b3;rw[eu];clear et eu tb ub;have e7:1<=U.length:=by omega
  have e8:U≠[]:=λe=>by rw[e]at e7;simp at e7
  have d5:∀x:Int,∃z∈U,dY (U.map λz=>V.ref z.a) (x%(U.length:Int))=some (V.ref z.a):=λx=>by
   obtain⟨v,hv,e⟩:=zq (xs:=U.map λz=>V.ref z.a) (Nk x (show(U.length:Int)≠0 by omega)) (by rw[My];exact Nl _ ⋯);obtain⟨z,hz,rfl⟩:=Nf.mp hv;exact⟨z,hz,e⟩
  ext;refine h1 _ _ ?_;grind;obtain⟨l,a0,f8⟩:=d5 re;refine⟨_,aT.of g.st,by rw[My];omega,_,aT.of g.st,_,by rw[My];exact f8,h1 _ _ ?_⟩;grind;refine⟨_,aT.of g.st,by rw[My];omega,by rw[My];omega,h1 _ _ ?_⟩;clear h1;rw[My];generalize re/(U.length:Int)=re2;have a1:=g.at_ l a0;have b1:=g.good l a0;obtain⟨zr,zc,f4⟩:=b1.sd;have zp:=f4.pic λr hr=>(g.ro r hr).good;have zr6:zr<=6:=zp.r6;have zc6:zc<=6:=zp.c6;obtain⟨J,b0,_⟩:=d4 0;have f3:∀{H5:Hp} {S R tm M:Addr} {ys:List FI} {r:Nat×RV} {pc:bH},aE H H5->H5 S=some (.tup (fu r))->mh p sg r->r.2.c=C->H5 R=some (.lst (ys.map λz=>V.ref z.a))->H R=none->(∀y∈ys,y∈U)->H5 tm=some (.tup [.ref M,.int m])->H5 M=some (.lst (aJ pc))->(∃a b,fA pc a b)->Nx r (ys.map FI.x) pc->rR [.ref lr,.ref ls,.ref S,.bl ag,.ref R,.ref tm] H5 (λ_ H1=>Q .non H1) E0:=fun{H5 S R tm M ys r pc} s5 e1 hro hc0 e2 B hys e3 e4 a5 nx=>by
   have nl:∀{x u},H x=some u->R≠x:=λe z=>by rw[<- z,B]at e;cases e
   obtain⟨a,b,p6⟩:=a5;refine⟨lr,ls,S,R,tm,M,ag,ts,rs,U,ys,r,pc,p,sg,m,rfl,g.up s5,e1,hro,f2,a4,e2,nl g.rows.1,nl g.st,hys,e3,e4,λe=>?_,nx,λH' b4 c2 T g' sB l1 l2 c4=>?_⟩
   ·have h1:=p6.rc.1
    have h2:=p6.r0;rw[e]at h1;rw[<- h1]at h2;cases h2
   ·exact q H' b4 c2 T g' (λy u n1 n2 e=>sB y u n1 n2 (s5 _ _ e)) l1 l2 (d6 hc0 c4 (.inr e8))
  refine ak λN1 h1=>?_;refine u5 λtb ub et eu=>?_;ext;refine eF (λk3=>?_) (λk3=>?_)
  ·rw[et]
   clear et eu tb ub h1;symm;obtain⟨Y,e9,g0⟩:∃Y:Nat,re2%8=(Y:Int)/\Y<8:=⟨(re2%8).toNat,⋯,⋯⟩;rw[e9];refine⟨_,aV.of a1.1,_,rfl,l.lp,l.x.p,zr,zc,Y,rfl,a1.2.2.1,zp.rc,zp.r0,zp.c0,⋯,⋯,g0,λM H1 a7 d0 s1=>⟨ao nofun,λtm L=>h1 _ _ ?_⟩⟩;clear h1;have s2:=ae (o:=.tup [V.ref M,V.int m]) L;have e2:aC H1 tm (.tup [V.ref M,V.int m]) tm=some (.tup [V.ref M,V.int m]):=ad;generalize aC H1 tm (.tup [V.ref M,V.int m])=H2 at s2 e2 ⊢;have O:=s1.trans s2;ext;rw[e9];refine⟨_,aV.of (O _ _ a1.1),_,rfl,ao nofun,λS Z=>⟨ao nofun,λR B=>?_⟩⟩;have a8:H R=none:=ik (O.trans (ae Z)) B;have e3:aC H2 S (.tup [V.str (tx nm),V.int C,V.int 3,V.str (tx l.x.nm),V.int (Y:Int)]) S=some (.tup (fu (3,⟨nm,C,l.x.nm,nm,[J],(Y:Int)⟩))):=ad;have s3:=ae (o:=.tup [V.str (tx nm),V.int C,V.int 3,V.str (tx l.x.nm),V.int (Y:Int)]) Z;generalize aC H2 S (.tup [V.str (tx nm),V.int C,V.int 3,V.str (tx l.x.nm),V.int (Y:Int)])=H3 at s3 e3 B ⊢;have s4:=ae (o:=.lst [V.ref l.a]) B;exact f3 ((O.trans s3).trans s4) (s4 _ _ e3) (gd 3 _ _ J _ nofun b1.nm a6 b0 ⋯ ⋯) rfl (ys:=[l]) ad a8 (λy hy=>by rw[Mz.mp hy];exact a0) (s4 _ _ (s3 _ _ e2)) (s4 _ _ (s3 _ _ (s2 _ _ d0))) (ut zp Y) (Nx.turn (x:=l.x) rfl rfl)
  ·rw[eu]
   clear et eu tb ub;ext;refine h1 _ _ ?_;grind;obtain⟨I,a3,f7⟩:=d5 re2;refine⟨_,aT.of g.st,by rw[My];omega,_,aT.of g.st,_,by rw[My];exact f7,h1 _ _ ?_⟩;clear h1;have b2:=g.at_ I a3;have d3:=g.good I a3;obtain⟨f5,f6,d1⟩:=d3.sd;have d2:=d1.pic λr hr=>(g.ro r hr).good;ext;refine⟨ao nofun,λpt g2=>?_⟩;have s1:=ae (o:=.tup [V.int (c%4),V.int (3-c%4)]) g2;have e1:aC H pt (.tup [V.int (c%4),V.int (3-c%4)]) pt=some (.tup [V.int (c%4),V.int (3-c%4)]):=ad;generalize aC H pt (.tup [V.int (c%4),V.int (3-c%4)])=H1 at s1 e1 ⊢;refine⟨⟨_,aV.of e1⟩,?_⟩;refine xZ (xs:=[V.int (c%4),V.int (3-c%4)]) (λi σ H'=>aE H1 H'/\∃y2 y3,σ=[some (V.ref lr),some (V.ref ls),some (V.int c),some (V.ref td),some (V.str (tx sg)),some (V.ref lb),some (V.int G),some (V.int a2),some (V.int m),some (V.int (c%4)),some (V.bl ag),some (V.str (tx nm)),some (V.int C),some (V.int re2),none,some (V.ref l.a),none,some (V.ref I.a),y2,y3]) ⟨aE.refl _,_,_,rfl⟩ (λi σ H' _ h=>aV.of (h.1 _ _ e1)) ?_ ?_
   ·rintro i x σ H2 hx ⟨s2,y2,y3,rfl⟩
    obtain⟨k,hk,rfl⟩:∃k:Nat,(k=1\/k=2)/\x=V.int (k:Int):=by
     have g6:c%4=1\/c%4=2:=by omega
     have hm:=MB hx;rcases g6 with e | e<;>rw[e]at hm<;>(rcases MM.mp hm with rfl | hm)
     ·exact⟨1,.inl rfl,rfl⟩
     ·rw[Mz.mp hm];exact⟨2,.inr rfl,rfl⟩
     ·exact⟨2,.inr rfl,rfl⟩
     ·rw[Mz.mp hm];exact⟨1,.inl rfl,rfl⟩
    have O:=s1.trans s2;have g4:(if decide ((k:Int)=1)=true then 1 else 2)=k:=by rcases hk with rfl | rfl<;>rfl
    ac_nf;refine⟨_,aV.of (O _ _ a1.1),_,rfl,_,aV.of (O _ _ b2.1),_,rfl,l.lp,I.lp,l.x.p,I.x.p,zr,zc,f5,f6,decide ((k:Int)=1),a2,rfl,O _ _ a1.2.2.1,O _ _ b2.2.2.1,zp,d2,g1,λpc a5 M H3 a7 d0 s3=>h2 _ _ ?_,λH3 _ s3=>h2 _ _ ?_⟩
    ·clear h2
     rw[g4]at a5;ext;rw[q07 (by simp)];have a9:=O.trans s3;refine⟨_,aV.of (a9 _ _ a1.1),_,rfl,_,aV.of (a9 _ _ b2.1),_,rfl,ao nofun,λS Z=>⟨ao nofun,λR B=>⟨ao nofun,λtm L=>?_⟩⟩⟩;have a8:H R=none:=ik (a9.trans (ae Z)) B;have r0:mh p sg (k,⟨nm,C,l.x.nm,I.x.nm,[J],0⟩):=gd k _ _ J _ ⋯ b1.nm d3.nm b0 nofun nofun;have e4:aC H3 S (.tup [V.str (tx nm),V.int C,V.int (k:Int),V.str (tx l.x.nm),V.str (tx I.x.nm)]) S=some (.tup (fu (k,⟨nm,C,l.x.nm,I.x.nm,[J],0⟩))):=by rw[ad];rcases hk with rfl | rfl<;>rfl
     have s4:=ae (o:=.tup [V.str (tx nm),V.int C,V.int (k:Int),V.str (tx l.x.nm),V.str (tx I.x.nm)]) Z;generalize aC H3 S (.tup [V.str (tx nm),V.int C,V.int (k:Int),V.str (tx l.x.nm),V.str (tx I.x.nm)])=H4 at s4 e4 B L ⊢;have s5:=ae (o:=.lst [V.ref l.a,V.ref I.a]) B;have e5:aC H4 R (.lst [V.ref l.a,V.ref I.a]) R=some (.lst [V.ref l.a,V.ref I.a]):=ad;generalize aC H4 R (.lst [V.ref l.a,V.ref I.a])=H5 at s5 e5 L ⊢;have s6:=ae (o:=.tup [V.ref M,V.int m]) L;have c1:=s5.trans s6;exact f3 ((a9.trans s4).trans c1) (c1 _ _ e4) r0 rfl (ys:=[l,I]) (s6 _ _ e5) a8 (λy hy=>by rcases MM.mp hy with rfl | hy;exact a0;rw[Mz.mp hy];exact a3) ad ((s4.trans c1) _ _ d0) (xc hk zp d2 (a5 ⟨nm,C,l.x.nm,I.x.nm,[J],0⟩)) (Nx.pair (x:=l.x) (y:=I.x) hk rfl rfl (a5 _))
    ·clear h2
     ext;rw[q06 (by simp)];exact s2.trans s3
   ·rintro σ H2 ⟨s2,y2,y3,rfl⟩
    exact q H2 ts rs U (g.up (s1.trans s2)) (λy u _ _ e=>s2 _ _ (s1 _ _ e)) ⋯ ⋯ (λ_=>e8)
abbrev ou:Stmt:=h_ 69
inductive qF(vs:List V)(H:Hp)(Q:VK)(_E:XK):Prop
 |mk (lc td lb:Addr) (cells:List Int) (p:bH) (sg:Nu) (dear side lim:Int) (_:vs=[.ref lc,.ref td]) (_:H lc=some (.lst (cells.map V.int))) (_:1<=cells.length) (_:cells.length<=14) (_:H td=some (.tup [.str (tx sg),.ref lb,.int dear,.int side,.int lim])) (_:H lb=some (.lst (aJ p))) (_:p.length=4) (_:(∀r∈p,dF r=true)) (_:dI sg=true) (_:1<=dear) (_:dear<=9) (_:dear<=lim) (_:side<=6) (_:∀tp lr ls ts rs zs H',H' tp=some (.tup [.ref lr,.ref ls])->GS H' p sg lim lr ls ts rs zs->rs.length<=cells.length->zs≠[]->zs.length<=cells.length->aE H H'->Q (.ref tp) H')
theorem yW:az ["_law_cells_here","_law_drawn","_law_rules","_law_stock","_law_cell_here"] ["_law_cells_here","_law_drawn"] (am ou):=by walk_at "c"
theorem Ag{f:Addr}(F:cE K "_law_grown" "_law_grown" ou f fd)(nb:NB mg)(zIe:↑cW 3 "_law_step" ["_law_rules","_law_stock","_law_cell_here","_law_drawn"] uf):↑aY 4 f fd ["_law_cells_here","_law_drawn"] qF:=by
 have sc:=yW;walk_at "f"
 ·obtain⟨lc,td,lb,a,p,sg,T,C,D,rfl,O,b3,hc14,a2,a8,a6,a5,a3,b2,b1,b0,a4,q⟩:=h
  have hu:=hr.units;refine⟨_,(af (q01 2 sc.nd (bz ac))
   (af (q01 3 sc.nd (bz ac))
   (af (bL PassesOwn.never rfl (cG (al 0)) (q02 4 sc.nd)
   (aj (bF (aF zIe (hr.mono nofun) rfl aR (aa (al 2) (aa (al 3) (aa (al 4) (aa (al 1) ac))))))))
   (aj (aG (aQ (aa (al 2) (aa (al 3) ac)))))))),?_⟩
  symm;refine⟨MV _,λk m=>h1 _ _ ?_⟩;grind;refine⟨MV _,λb j=>h1 _ _ ?_⟩;grind;have sA:=(ae (o:=.lst []) m).trans (ae (o:=.lst []) j);refine⟨⟨_,aT.of (sA _ _ O)⟩,?_⟩;have S:aC (aC H k (.lst [])) b (.lst []) k=some (.lst []):=ae j _ _ ad;have R:aC (aC H k (.lst [])) b (.lst []) b=some (.lst []):=ad;have M:H b=none:=by
   by_cases e:b=k
   ·rw[e];exact m
   ·rwa [aq e]at j
  have a7:k≠b:=λe=>by rw[<- e,ad]at j;cases j
  generalize aC (aC H k (.lst [])) b (.lst [])=H1 at sA S R ⊢;refine dh (xs:=a.map V.int) (λi σ U=>aE H U/\i<=a.length/\(∃v n l,GS U p sg D k b v n l/\n.length<=i/\l.length<=i/\(1<=i->l≠[]))/\∃z,σ=[some (V.ref lc),some (V.ref td),some (V.ref k),some (V.ref b),z])
   ⟨sA,MV _,⟨[],[],[],⟨⟨S,rfl,λi t r e=>by simp at e⟩,λr hr=>(nomatch hr),R,λz hz=>(nomatch hz),λz hz=>(nomatch hz),a7⟩,MU _,MU _,λh=>q0N h nofun⟩,_,rfl⟩ (λi σ U _ h=>aT.of (h.1 _ _ O)) ?_ ?_
  ·rintro i x σ U hx ⟨B,_,⟨v,n,l,g,J,G,Y⟩,z,rfl⟩
   rw[MA]at hx;obtain⟨c,hc,rfl⟩:=MY.mp hx;have a9:i<a.length:=(Mw.mp hc).1;ext;refine⟨k,b,td,lb,v,n,l,p,sg,c,T,C,D,rfl,g,B _ _ a2,B _ _ a8,a6,a5,a3,b2,b1,b0,a4,⋯,⋯,λH2 a0 a1 Z g' sB l1 l2 L=>?_⟩;refine⟨λy u e=>sB y u (aK e m) (aK e M) (B y u e),a9,a0,a1,Z,g',⋯,⋯,λ_=>L ?_⟩
   by_cases h0:i=0
   ·exact .inr (Nd.mp ⋯)
   ·exact .inl (Y ⋯)
  ·rintro σ U ⟨B,_,⟨v,n,l,g,J,G,Y⟩,z,rfl⟩
   refine h1 _ _ ?_;ext;rw[My]at J G Y;exact⟨ao nofun,λtp I=>q tp k b v n l _ ad (g.up (ae I)) ⋯ (Y b3) ⋯ (B.trans (ae I))⟩
theorem gH:∀{ps:List TR} {ts:List bu},ts∈bE F ps->ts.length=ps.length/\∀(i:Nat) t p,ts[i]?=some t->ps[i]?=some p->t∈F p
 | [],ts,h=>by
  have:ts=[]:=by simpa[bE]using h
  subst this;exact⟨rfl,λi t p e=>by simp at e⟩
 |p::ps,ts,h=>by
  obtain⟨t,k,h⟩:=List.mem_flatMap.mp h;obtain⟨us,a,rfl⟩:=Nf.mp h;obtain⟨h1,h2⟩:=gH a;refine⟨by rw[MI,MI,h1],λi g j c b=>?_⟩;cases i with
  |zero=>cases c;cases b;exact k
  |succ i=>exact h2 i g j c b
theorem IT(h1:fA p1 r c)(h2:fA p2 r c')(h:c+c'<=6):fj 1 v [p1,p2]=some (put2 p1 p2):=by
 show(if p1.length=p2.length/\(p1.headD []).length+(p2.headD []).length<=6 then some (put2 p1 p2) else none)=_;rw[bD h1.rc h1.r0,bD h2.rc h2.r0,h1.rc.1,h2.rc.1,q07 ⟨rfl,h⟩]
theorem IP(h1:fA p1 r c)(h2:fA p2 r' c)(h:r+r'<=6):fj 2 v [p1,p2]=some (p1++p2):=by
 show(if(p1.headD []).length=(p2.headD []).length/\p1.length+p2.length<=6 then some (p1++p2) else none)=_;rw[bD h1.rc h1.r0,bD h2.rc h2.r0,h1.rc.1,h2.rc.1,q07 ⟨rfl,h⟩]
theorem vL{α:Type}{ts:List α}(h:ts.length=2):∃a b,ts=[a,b]:=by
 match ts,h with
 | [a,b],_=>exact⟨a,b,rfl⟩
theorem Hz{α:Type}{ts:List α}(h:ts.length=1):∃a,ts=[a]:=by
 match ts,h with
 | [a],_=>exact⟨a,rfl⟩
theorem AO{rs:Yaa}(hg:∀r∈rs,cU r):∀(f:Nat) (p:TR) (t:bu),d9 p->p.2.2.2<(f:Int)->t∈RT rs p->∃pc,Sd rs t p pc
 |0,p,t,ok,h,ht=>by
  have:t∈GE rs 17 p:=ht;rw[nU ok (by simp at h;omega)]at this;cases this
 |f+1,p,t,ok,h,ht=>by
  have gc:=gY hg;rw[ng gc ok]at ht;obtain⟨s,hs,ht⟩:=List.mem_flatMap.mp ht;obtain⟨ts,hts,rfl⟩:=Nf.mp ht;obtain⟨hl,hm⟩:=gH hts;have ih:∀p'∈s.2.1,∀t'∈RT rs p',∃pc,Sd rs t' p' pc:=λp' hp' t' ht'=>by
   obtain⟨ok',lt'⟩:=fO gc ok hs hp';exact AO hg f p' t' ok' (by push_cast at h;omega) ht'
  obtain⟨q,hq,hn,hps,_,_,_⟩:=fN hs;have hgq:=hg q (MB hq);have h4:=hgq.k4;obtain⟨nm,r,c,k⟩:=p;obtain⟨n,ps,m⟩:=s;obtain⟨kd,v⟩:=q;have r6:r<=6:=ok.r6;have c6:c<=6:=ok.c6;have r1:1<=r:=ok.r1;have c1:1<=c:=ok.c1;have hn:v.n=nm:=hn;subst hn;simp only at hq hps hl hm ih ⊢;have hk:kd=0\/kd=1\/kd=2\/kd=3:=by simp at h4;omega
  rcases hk with rfl | rfl | rfl | rfl
  ·have e:ps∈(if r=1/\c=1/\k=v.c then[[]] else[]):=hps
   clear hps
   by_cases y:r=1/\c=1/\k=v.c
   ·rw[q07 y]at e
    obtain⟨rfl,rfl,rfl⟩:=y;have:ps=[]:=by simpa using e
    subst this;have:ts=[]:=Nd.mp hl;subst this;exact⟨_,.cell hq⟩
   ·rw[q06 y]at e
    cases e
  ·have hps:ps∈bc v.o1 v.o2 (fg r c) (k-v.c):=hps
   obtain⟨z,x,hps⟩:=List.mem_flatMap.mp hps;obtain⟨w,D,rfl⟩:=Nf.mp hps;obtain⟨j,u,rfl⟩:=Nf.mp x;have u:=List.mem_range.mp u;obtain⟨a,b,rfl⟩:=vL hl;obtain⟨B,g⟩:=ih _ (by simp) a (hm 0 a _ rfl rfl);obtain⟨C,l⟩:=ih _ (by simp) b (hm 1 b _ rfl rfl);have m1:=IT (v:=v) (g.pic hg) (l.pic hg) (by show 1+j+(c-(1+j))<=6;omega);have h1:=Sd.beside hq g l m1;rw[show 1+j+(c-(1+j))=c by omega,show v.c+(w+(k-v.c-w))=k by omega]at h1;exact⟨_,h1⟩
  ·have hps:ps∈bc v.o1 v.o2 (fF r c) (k-v.c):=hps
   obtain⟨z,x,hps⟩:=List.mem_flatMap.mp hps;obtain⟨w,D,rfl⟩:=Nf.mp hps;obtain⟨j,u,rfl⟩:=Nf.mp x;have u:=List.mem_range.mp u;obtain⟨a,b,rfl⟩:=vL hl;obtain⟨B,g⟩:=ih _ (by simp) a (hm 0 a _ rfl rfl);obtain⟨C,l⟩:=ih _ (by simp) b (hm 1 b _ rfl rfl);have m1:=IP (v:=v) (g.pic hg) (l.pic hg) (by show 1+j+(r-(1+j))<=6;omega);have h1:=Sd.above hq g l m1;rw[show 1+j+(r-(1+j))=r by omega,show v.c+(w+(k-v.c-w))=k by omega]at h1;exact⟨_,h1⟩
  ·have hps:ps∈[[(v.o1,(if v.t%2=1 then c else r),(if v.t%2=1 then r else c),k-v.c)]]:=hps
   have:ps=[(v.o1,(if v.t%2=1 then c else r),(if v.t%2=1 then r else c),k-v.c)]:=by simpa using hps
   subst this;obtain⟨a,rfl⟩:=Hz hl;obtain⟨B,g⟩:=ih _ (by simp) a (hm 0 a _ rfl rfl);have h1:=Sd.turn hq g;rw[show v.c+(k-v.c)=k by omega]at h1
   by_cases o:v.t%2=1
   ·simp only[q07 o]at h1;exact⟨_,h1⟩
   ·simp only[q06 o]at h1;exact⟨_,h1⟩
theorem l7{left:Int}(h8:left<=8):∀(szs:List ((Nat×Nat)×(Nat×Nat))),(∀z∈szs,vK r c z)->(bc o1 o2 szs left).length<=szs.length*7
 | [],_=>MU _
 |z::szs,h=>by
  have ih:=l7 (o1:=o1) (o2:=o2) h8 szs λz' hz'=>h z' (MN _ hz');have f1:=bR (h z q0B).a (h z q0B).b;have f2:=bR (h z q0B).d (h z q0B).e;unfold bc at ih ⊢;rw[List.flatMap_cons,MT,MI,My];unfold ja at ih ⊢;rw[My,q0G];omega
theorem B'{f:TR->Nat}{left:Int}{M:Nat}{szs:List ((Nat×Nat)×(Nat×Nat))}{ps:List TR}(hs:∀z∈szs,vK r c z)(h:ps∈bc o1 o2 szs left)(hf:∀p∈ps,4*f p<=2 ^ (7*p.2.2.2.toNat))(hM:2 ^ (7*left.toNat)<=M):16*aS f ps<=M:=by
 obtain⟨z,g,h⟩:=List.mem_flatMap.mp h;obtain⟨x,j,rfl⟩:=Nf.mp h;have j:=k_.mp j;have g1:=bR (hs z g).a (hs z g).b;have g2:=bR (hs z g).d (hs z g).e;have h1:=hf _ q0B;have h2:=hf _ (MN _ q0B);show 16*(1*f _*f _)<=_;rw[Nat.one_mul];refine M5 ?_ hM;have e:7*left.toNat=7*x.toNat+7*(left-x).toNat:=by omega
 rw[e,Nat.pow_add];refine M5 (Nat.le_of_eq ?_) (Nat.mul_le_mul h1 h2);rw[show(16:Nat)=4*4 from rfl,Nat.mul_mul_mul_comm]
theorem DE(gc:dw rs)(h12:rs.length<=12):∀(f:Nat) (p:TR),p.2.1<=6->p.2.2.1<=6->p.2.2.2<=9->4*cnt rs f p<=2 ^ (7*p.2.2.2.toNat)
 |0,_,_,_,_=>MV _
 |f+1,p,hr6,hc6,hk=>by
  unfold cnt
  split
  ·exact MV _
  ·rename_i hn
   have hr:1<=p.2.1:=by omega
   have x:1<=p.2.2.1:=by omega
   have k1:1<=p.2.2.2:=by have:=bR hr x;omega
   have e:2 ^ (7*p.2.2.2.toNat)=128*2 ^ (7*(p.2.2.2-1).toNat):=by
    rw[show 7*p.2.2.2.toNat=7+7*(p.2.2.2-1).toNat by omega,Nat.pow_add]
   have y:1<=2 ^ (7*(p.2.2.2-1).toNat):=Nat.one_le_two_pow;have mono:∀{a:Int},a<=p.2.2.2-1->2 ^ (7*a.toNat)<=2 ^ (7*(p.2.2.2-1).toNat):=λh=>Nat.pow_le_pow_right nofun ⋯;rw[e];generalize 2 ^ (7*(p.2.2.2-1).toNat)=M at y mono;have u:∀q∈cB p.1 rs,((bT q p.2.1 p.2.2.1 p.2.2.2).map λps=>aS (cnt rs f) ps).sum<=128*M/48:=λq J=>by
    obtain⟨C,n,_⟩:=gc q (ij J).1;have l:∀ps∈bT q p.2.1 p.2.2.1 p.2.2.2,∀j∈ps,4*cnt rs f j<=2 ^ (7*j.2.2.2.toNat):=λps g j w=>by
     have o:=kr C n hr x g w;have:=o.rm;have:=o.cm;have:=o.lt;exact DE gc h12 f j ⋯ ⋯ ⋯
    obtain⟨t,v⟩:=q;have n:1<=v.c:=n;have I:t=0\/t=1\/t=2\/t=3:=by simp at C;omega
    have k:∀b:List ((Nat×Nat)×(Nat×Nat)),(∀z∈b,vK p.2.1 p.2.2.1 z)->b.length<=5->(∀ps∈bc v.o1 v.o2 b (p.2.2.2-v.c),∀j∈ps,4*cnt rs f j<=2 ^ (7*j.2.2.2.toNat))->((bc v.o1 v.o2 b (p.2.2.2-v.c)).map λps=>aS (cnt rs f) ps).sum<=128*M/48:=λb m h5 l=>by
     have D:=l7 (o1:=v.o1) (o2:=v.o2) (left:=p.2.2.2-v.c) ⋯ b m;refine M5 (jn _ (M/16) _ λps g=>?_) ?_
     ·have:=B' m g (l ps g) (mono (a:=p.2.2.2-v.c) ⋯)
      omega
     ·have B:(bc v.o1 v.o2 b (p.2.2.2-v.c)).length<=35:=by omega
      refine M5 (Nat.mul_le_mul_right _ B) ?_;omega
    rcases I with rfl | rfl | rfl | rfl
    ·have:(bT (0,v) p.2.1 p.2.2.1 p.2.2.2)=(if p.2.1=1/\p.2.2.1=1/\p.2.2.2=v.c then[[]] else[]):=rfl
     rw[this]
     split
     ·show 1+0<=_
      omega
     ·show 0<=_
      omega
    ·exact k _ (λz r=>iV hr r) (by rw[gX];omega) l
    ·exact k _ (λz r=>iR x r) (by rw[gJ];omega) l
    ·have G:(bT (3,v) p.2.1 p.2.2.1 p.2.2.2)=[[(v.o1,(if v.t%2=1 then p.2.2.1 else p.2.1),(if v.t%2=1 then p.2.1 else p.2.2.1),p.2.2.2-v.c)]]:=rfl
     have h1:=l _ (by rw[G];exact Mz.mpr rfl) _ (Mz.mpr rfl);rw[G];show 1*cnt rs f _+0<=_;have h2:=M5 h1 (mono (a:=p.2.2.2-v.c) ⋯);omega
   have m:=jn _ (128*M/48) _ u;have D:(cB p.1 rs).length<=12:=M5 (List.length_filter_le _ _) h12;have:=M5 m (Nat.mul_le_mul_right _ D);omega
theorem GT(gc:dw rs)(h12:rs.length<=12){p:TR}(hr:p.2.1<=6)(hc:p.2.2.1<=6)(hk:p.2.2.2<=9):CN rs p<=2 ^ 61:=by
 have h1:4*CN rs p<=2 ^ (7*p.2.2.2.toNat):=DE gc h12 17 p hr hc hk;have h2:2 ^ (7*p.2.2.2.toNat)<=2 ^ 63:=Nat.pow_le_pow_right nofun ⋯;have h3:(2:Nat) ^ 63=4*2 ^ 61:=by decide
 omega
theorem uP{F:TR->List bu}:∀{ps:List TR} {ts:List bu},ts.length=ps.length->(∀(i:Nat) t p,ts[i]?=some t->ps[i]?=some p->t∈F p)->ts∈bE F ps
 | [],ts,hl,_=>by
  have:ts=[]:=Nd.mp hl;subst this;simp[bE]
 |p::ps,[],hl,_=>by simp at hl
 |p::ps,t::ts,hl,h=>List.mem_flatMap.mpr ⟨t,h 0 t p rfl rfl,Nf.mpr ⟨ts,uP (by simpa using hl) λi t' p' e1 e2=>h (i+1) t' p' e1 e2,rfl⟩⟩
theorem Sd.mem{rs:Yaa}(hg:∀r∈rs,cU r):∀(n:Nat) {t:bu} {p:TR} {pc:bH},t.dep<=n->Sd rs t p pc->p.2.2.2<=16->t∈RT rs p
 |0,t,p,pc,h,_,_=>q0N t.dep1 ⋯
 |n+1,t,p,pc,h,sd,k16=>by
  have gc:=gY hg;have ok:=sd.row hg k16;obtain⟨m,q0,ps,hi,hq,hnm,hpl,hp2,hpp,hpr⟩:=sd.node hg;have hts:t.ps∈bE (RT rs) ps:=uP hpl.symm λi t' p' e1 e2=>by
   obtain⟨pc',sd',lt'⟩:=hpp i t' p' e1 e2;have:=(bu.lt (MB e1)).1;exact Sd.mem hg n ⋯ sd' ⋯
  have okp:∀p'∈ps,d9 p':=λp' hp'=>by
   obtain⟨i,hi,e⟩:=List.getElem_of_mem hp';have e2:ps[i]?=some p':=by rw[Mv hi,e]
   obtain⟨pc',sd',lt'⟩:=hpp i (t.ps[i]'⋯) p' (Mv ⋯) e2;exact sd'.row hg ⋯
  have a:0<aS (CN rs) ps:=by
   have:=List.length_pos_of_mem hts
   rwa [fM (g:=CN rs) λp' hp'=>b6 gc (okp p' hp')]at this
  rw[ng gc ok];refine List.mem_flatMap.mpr ⟨_,A1 hq hnm hpr a (sd.low hg).1,Nf.mpr ⟨t.ps,hts,?_⟩⟩;show ye (m:Int) t.ps=t;rw[<- hi,A5]
abbrev mJ:Stmt:=h_ 47
def GZ(H:Hp)(l:Addr)(ts:List bu):Prop:=∃vs,H l=some (.lst vs)/\aP H (ts.map bu.d) vs
inductive ia(R:RC)(CG CN_ CM_:Addr)(vs:List V)(H:Hp)(Q:VK)(E:XK):Prop
 |mk (g dg:Addr) (sg st:Nu) (as:Ny) (rs:Yaa) (m:Nat) (p:TR) (_:vs=[.ref g,.str (tx p.1),.int (p.2.1:Int),.int (p.2.2.1:Int),.int p.2.2.2]) (_:eJ R H CG dg g sg st as rs) (_:qV st rs m) (_:((sM st rs m p/\(CN rs p<=300->∀l H',H l=none->GZ H' l (RT rs p)->aE H H'->Q (.ref l) H')/\(300<CN rs p->∀H',aE H H'->E (.ref CM_) none H'))\/(tx p.1∉(bt (tx st) rs).map (·.1)/\∀H',aE H H'->E (.ref CN_) none H')))
theorem wZ:az ["grammar","name","rows","columns","cost","tree_rows","row","many"] ["grammar","name","rows","columns","cost"] (am mJ):=by walk_at "c"
theorem wO{f CT yaa yac yae:Addr}{tk:Tok}(F:cE K "trees_of" "trees_of" mJ f fd)(nb:NB mg)(ct:fY K CT)(nt:av K CT "grammar"/\av K CT "steps"/\av K CT "totals")(ybk:mg "MOST_TREES"=some (.int 300 tk))(yaB:mg "TooMany"=some (.ref yae))(ybb:XR K yae)
  (yat:↑mw 1 "TreeRows" CT ["self","grammar"] (hU K)) (yag:cn P w K mg base (bI P w) 72 CT "many_in" ["self","row"] (bA R CG CT yaa 17)) (yaW:cn P w K mg base (bI P w) 107 CT "tree_in" ["self","row","k"] (cL R CG CT yaa yac 17)) :
  aY P w K mg base (bI P w) 108 f fd ["grammar","name","rows","columns","cost"] (ia R CG yaa yae):=by
 have sc:=wZ;walk_at "x"
 ·obtain⟨g,dg,T,S,as,r,m,p,rfl,_⟩:=h;rfl
 ·obtain⟨g,dg,T,S,as,r,m,p,rfl,gr,ok,cs⟩:=h
  have hu:=hr.units;refine⟨_,(af (aB (i:=5) sc.nd rfl (Or.inr rfl) (ib yat (hr.mono nofun) rfl aR (aa (al 0) ac)))
   (af (aB (i:=6) sc.nd rfl (Or.inr rfl) (aQ (aa (al 1) (aa (al 2) (aa (al 3) (aa (al 4) ac))))))
   (af (q01 7 sc.nd (bV yag (hr.mono nofun) (bo λ_ _ _ h=>h) (al 5) (aa (al 6) ac)))
   (af (bp (aH (br.m0 jP) (al 7) (dz (v:=.int 300) rfl ybk ⟨_,rfl⟩) (aL _))
   (aj (dS ybb rfl rfl yaB (fE λ_ _ _ h=>h) (bJ ac)))
   aN)
   (aj (aG (b7 ["k"] [5,6] rfl (bB.of (by kernel_rfl)) (by kernel_rfl) (dl rfl nb.range (aa (al 7) ac))
    (λ_ _ _ _=>(aD (i:=0) (by show(["k","tree_rows","row"]:List Str).Nodup;decide +kernel) rfl (Or.inl rfl))) (λ_ _ _ _=>bK) (λ_ _ _ _=>(bV (CX:=bI P w) yaW (hr.mono nofun) bj (al 1) (aa (al 2) (aa (al 0) ac))))))))))),?_⟩
  symm;intro x B hx a7 a6;have D:aE H (aC (aC H B (.own x)) x (.ins CT B [])):=(ae a7).trans (ae (by rw[aq (Ne.symm a6)];exact hx));refine⟨x,CT,B,g,rfl,ad,ct.cl,nt,λJ I L f1 f2 a3 ex b0 a9 sx=>⟨rfl,h1 _ _ ?_⟩⟩;clear h1;have s2:aE H L:=λy u e=>sx y u (aK e hx) (D y u e);symm;refine⟨ao nofun,λb hb=>h1 _ _ ?_⟩;clear h1;have s3:=ae (o:=.tup (ce p)) hb;have G:=s2.trans s3;have O:hV R CG CT (aC L b (.tup (ce p))) x B g dg J I T S as r m:=Dw gr ok G a3 (s3 _ _ ex) (s3 _ _ b0) (s3 _ _ a9);have eb:aC L b (.tup (ce p)) b=some (.tup (ce p)):=ad;have k:∀{H4},ck J I (aC L b (.tup (ce p))) H4->aE H H4:=λsd y u e=>sd y u (λz=>by rw[z,D.free f1]at e;cases e) (λz=>by rw[z,D.free f2]at e;cases e) (G y u e);have a2:∀{y},aC L b (.tup (ce p)) y=none->H y=none:=λh=>ik G h;change hV R CG CT (aC L b (HO.tup (ce p))) x B g dg J I T S as r m at O;rw[show[V.str (tx p.1),V.int (p.2.1:Int),V.int (p.2.2.1:Int),V.int p.2.2.2]=ce p from rfl];generalize aC L b (.tup (ce p))=H3 at O eb k a2 ⊢;symm;refine⟨B,_,O.at_,rfl,x,B,g,dg,J,I,b,T,S,as,r,m,p,rfl,O,eb,?_⟩;rcases cs with⟨dp,q,bad⟩ | ⟨nn,a8⟩
  rotate_left
  ·exact .inr ⟨nofun,nn,a8 _ (k λ_ _ _ _ e=>e)⟩
  refine .inl ⟨dp,nofun,by have:=dp.k16;omega,λH4 Y a5=>h1 _ _ ?_⟩;clear h1;have a1:=dp.row ok.m6;have a0:=b6 ok.gc a1;symm;refine eF (λt1=>?_) (λt1=>?_)
  ·exact⟨ao nofun,bad ⋯ H4 (k Y)⟩
  refine h1 _ _ ?_;clear h1;ext;refine⟨⋯,⋯,?_⟩;rw[MG];refine dE (lo:=0) (n:=CN r p) (λi a σ M=>ck J I H3 M/\eG S r m M J I/\i<=CN r p/\aP M (((RT r p).take i).map bu.d) a/\∃z,σ=[z,some (V.ref x),some (V.ref b)]) ⟨Y,a5,MV _,by rw[No];exact aP.nil,_,rfl⟩ ?_ ?_ ?_ ?_
  ·rintro i a σ M ⟨_,_,hi,c,_⟩
   rw[c.length,My,Na];exact bf ⋯
  ·rintro i a σ M ⟨_,_,h,_⟩
   exact h
  ·rintro i a σ M hi ⟨sd,mm,_,c,y,rfl⟩
   have C:=O.next sd mm;obtain⟨t,ht⟩:∃t,(RT r p)[i]?=some t:=⟨_,Mv ⋯⟩;ext;refine⟨B,_,C.at_,rfl,x,B,g,dg,J,I,b,T,S,as,r,m,p,(i:Int),by simp,C,(O.kp sd).tup eb,nofun,.inl ⟨dp,by have:=dp.k16;omega,λj t' hj Z v H5 U a4 hv=>?_,λh=>q0N h ⋯⟩⟩;have hj:i=j:=by omega
   subst hj;rw[ht]at Z;cases Z;refine⟨sd.trans U,a4,hi,?_⟩;rw[qM ht,MJ];exact aP.app (aP.up (λb xs e=>(C.kp U).tup e) _ c) (aP.cons hv aP.nil)
  ·rintro a σ M ⟨sd,mm,_,c,y,rfl⟩ l hl
   have s':=ae (o:=.lst a) hl;refine q ⋯ l _ (ik (k sd) hl) ⟨a,ad,?_⟩ ((k sd).trans s');rw[<- a0,M']at c;exact aP.up (du.of s') _ c
def lC(rs:Yaa):bu->Nat×Nat×Int
 | .n0 i=>(1,1,(rs[i.toNat]?.map λq=>q.2.c).getD 0)
 | .n1 i a=>match rs[i.toNat]? with
  |some q=>(if q.2.t%2=1 then(lC rs a).2.1 else(lC rs a).1,if q.2.t%2=1 then(lC rs a).1 else(lC rs a).2.1,q.2.c+(lC rs a).2.2)
  |none=>(0,0,0)
 | .n2 i a b=>match rs[i.toNat]? with
  |some q=>(if q.1=1 then(lC rs a).1 else(lC rs a).1+(lC rs b).1,if q.1=1 then(lC rs a).2.1+(lC rs b).2.1 else(lC rs a).2.1,q.2.c+((lC rs a).2.2+(lC rs b).2.2))
  |none=>(0,0,0)
theorem Sd.sh{t:bu}{pc:bH}(h:Sd rs t p pc):lC rs t=p.2:=by
 induction h with
 |cell e=>simp[lC,e]
 |turn e _ ih=>simp only[lC,MG,e,ih]
 |beside e _ _ _ ih1 ih2=>simp[lC,e,ih1,ih2]
 |above e _ _ _ ih1 ih2=>simp[lC,e,ih1,ih2]
def pW(rs:Yaa)(i:Int)(a:bu):Nat:=if rs[i.toNat]?.map (·.1)=some 1 then(lC rs a).2.1 else(lC rs a).1
def gO(rs:Yaa):bu->Dt
 | .n0 i=>.tup [.int i]
 | .n1 i a=>.tup [.int i,gO rs a]
 | .n2 i a b=>.tup [.int i,.int (pW rs i a:Int),.int (lC rs a).2.2,gO rs a,gO rs b]
theorem nX(rs:Yaa):∀t:bu,(gO rs t).dep=t.dep
 | .n0 i=>rfl
 | .n1 i a=>by simp only[gO,Dt.dep,Dt.deps,bu.dep,nX rs a];omega
 | .n2 i a b=>by simp only[gO,Dt.dep,Dt.deps,bu.dep,nX rs a,nX rs b];omega
theorem xY{F:TR->List bu}:∀{ps:List TR},(∀p∈ps,(F p).Pairwise L)->(bE F ps).Pairwise λts us=>∃pre x y r r',ts=pre++x::r/\us=pre++y::r'/\L x y
 | [],_=>by unfold bE;simp
 |p::ps,h=>by
  unfold bE;refine List.pairwise_flatMap.mpr ⟨λt ht=>?_,(h p q0B).imp fun{a b} hab x hx y hy=>?_⟩
  ·rw[List.pairwise_map]
   refine(xY λp' hp'=>h p' (MN _ hp')).imp fun{a b} hab=>?_;obtain⟨pre,x,y,r,r',rfl,rfl,l⟩:=hab;exact⟨t::pre,x,y,r,r',rfl,rfl,l⟩
  ·obtain⟨u,_,rfl⟩:=Nf.mp hx
   obtain⟨w,_,rfl⟩:=Nf.mp hy;exact⟨[],a,b,u,w,rfl,rfl,hab⟩
theorem DT(z:Str)(rs:Yaa):(bS z rs).Pairwise (· < ·):=by
 unfold bS;rw[List.pairwise_filterMap];have:rs.zipIdx.Pairwise (λa b=>a.2<b.2):=by
  have h:=List.pairwise_lt_range (n:=rs.length);rw[List.range_eq_range',<- List.zipIdx_map_snd 0 rs]at h;exact(List.pairwise_map.mp h)
 refine this.imp fun{a b} hab x hx y hy=>?_
 split at hx
 ·split at hy
  ·cases hx;cases hy;exact hab
  ·cases hy
 ·cases hx
def nC(k:Nat)(a:TR):Nat:=if k=1 then a.2.2.1 else a.2.1
theorem pE{left:Int}{k:Nat}:∀{szs:List ((Nat×Nat)×(Nat×Nat))},szs.Pairwise (λa b=>(if k=1 then a.1.2 else a.1.1)<(if k=1 then b.1.2 else b.1.1))->(bc o1 o2 szs left).Pairwise λx y=>∃a b a' b',x=[a,b]/\y=[a',b']/\(nC k a<nC k a'\/nC k a=nC k a'/\a.2.2.2<a'.2.2.2):=fun{szs} h=>by
 unfold bc;refine List.pairwise_flatMap.mpr ⟨λz hz=>?_,h.imp fun{a b} hab x hx y hy=>?_⟩
 ·rw[List.pairwise_map]
  have:(ja (fw z.1.1 z.1.2) (left-fw z.2.1 z.2.2+1)).Pairwise (· < ·):=by
   unfold ja;rw[List.pairwise_map];exact(List.pairwise_lt_range).imp fun{a b} hab=>by omega
  exact this.imp fun{a b} hab=>⟨_,_,_,_,rfl,rfl,.inr ⟨rfl,hab⟩⟩
 ·obtain⟨f1,_,rfl⟩:=Nf.mp hx
  obtain⟨f2,_,rfl⟩:=Nf.mp hy;exact⟨_,_,_,_,rfl,rfl,.inl hab⟩
theorem DB{q:Nat×RV}(h4:q.1<4):(bT q r c k).Pairwise λx y=>∃a b a' b',x=[a,b]/\y=[a',b']/\(nC q.1 a<nC q.1 a'\/nC q.1 a=nC q.1 a'/\a.2.2.2<a'.2.2.2):=by
 obtain⟨t,v⟩:=q;have:t=0\/t=1\/t=2\/t=3:=by simp at h4;omega
 rcases this with rfl | rfl | rfl | rfl
 ·show(if r=1/\c=1/\k=v.c then[[]] else[]:List (List TR)).Pairwise _
  split<;>simp
 ·refine pE ?_
  unfold fg;rw[List.pairwise_map];exact(List.pairwise_lt_range).imp fun{a b} hab=>by simp;omega
 ·refine pE ?_
  unfold fF;rw[List.pairwise_map];exact(List.pairwise_lt_range).imp fun{a b} hab=>by simp;omega
 ·show([[_]]:List (List TR)).Pairwise _
  simp
theorem Bx(gc:dw rs)(p:TR):(aZ rs p).Pairwise λs s'=>s.1<s'.1\/s.1=s'.1/\∃q,rs[s.1]?=some q/\∃a b a' b',s.2.1=[a,b]/\s'.2.1=[a',b']/\(nC q.1 a<nC q.1 a'\/nC q.1 a=nC q.1 a'/\a.2.2.2<a'.2.2.2):=by
 unfold aZ
 split
 ·exact List.Pairwise.nil
 ·refine List.pairwise_flatMap.mpr ⟨λi j=>?_,(DT _ _).imp fun{a b} hab x hx y hy=>.inl ?_⟩
  ·obtain⟨q,g,_⟩:=fJ j
   unfold cT;rw[g]
   try dsimp only
   rw[List.pairwise_filterMap];refine(DB (gc q (MB g)).1).imp fun{a b} hab x hx y hy=>.inr ?_
   split at hx
   ·split at hy
    ·cases hx;cases hy;exact⟨rfl,q,g,hab⟩
    ·cases hy
   ·cases hx
  ·have c:∀{i:Nat} {x:v9},x∈cT rs p i->x.1=i:=fun{i x} hx=>by
    unfold cT at hx
    split at hx
    ·obtain⟨ps,_,e⟩:=List.mem_filterMap.mp hx
     split at e
     ·cases e;rfl
     ·cases e
    ·cases hx
   rw[c hx,c hy];exact hab
theorem wy(rs:Yaa):∀t:bu,∃r,gO rs t=.tup (.int t.i::r)
 | .n0 _=>⟨_,rfl⟩
 | .n1 _ _=>⟨_,rfl⟩
 | .n2 _ _ _=>⟨_,rfl⟩
theorem GK{rs:Yaa}(hg:∀r∈rs,cU r):∀(f:Nat) (p:TR),d9 p->p.2.2.2<(f:Int)->(RT rs p).Pairwise λt u=>TL.LtK (gO rs t) (gO rs u)
 |0,p,ok,h=>by
  show(GE rs 17 p).Pairwise _;rw[nU ok (by simp at h;omega)];exact List.Pairwise.nil
 |f+1,p,ok,h=>by
  have gc:=gY hg;have len2:∀s∈aZ rs p,s.2.1.length<=2:=λs hs=>by
   obtain⟨q,hq,_,hps,_⟩:=fN hs;rcases dA (gc q (MB hq)).1 ok.r1 ok.c1 hps with e | ⟨p',e,_⟩ | ⟨_,z,f,sz,f1,f2,e⟩<;>rw[e]<;>simp
  have shs:∀s∈aZ rs p,∀(i:Nat) a t,s.2.1[i]?=some a->t∈RT rs a->lC rs t=a.2:=λs hs i a t e ht=>by
   obtain⟨ok1,_⟩:=fO gc ok hs (MB e);obtain⟨_,d1⟩:=AO hg 17 _ _ ok1 (by have:=ok1.k16;push_cast;omega) ht;exact d1.sh
  rw[ng gc ok];refine List.pairwise_flatMap.mpr ⟨λs hs=>?_,(Bx gc p).imp_of_mem fun{s s'} hs hs' hne x hx y hy=>?_⟩
  ·rw[List.pairwise_map]
   have l2:=len2 s hs;refine(xY (L:=λt u=>TL.LtK (gO rs t) (gO rs u)) λp' hp'=>?_).imp_of_mem fun{a b} ha hb hab=>?_
   ·obtain⟨ok',lt'⟩:=fO gc ok hs hp'
    exact GK hg f p' ok' (by push_cast at h;omega)
   ·obtain⟨l1,m1⟩:=gH ha
    obtain⟨l3,m3⟩:=gH hb;obtain⟨pre,x,y,r,r',rfl,rfl,l⟩:=hab;rw[MT,MI]at l1 l3
    match pre,r,r',l1,l3,m1,m3 with
    | [],[],[],_,_,_,_=>exact .at [.int (s.1:Int)] [] [] l
    | [],[z],[z'],k1,_,m1,m3=>
     have e0:s.2.1[0]?=some (s.2.1[0]'(by have:2=s.2.1.length:=k1;omega)):=Mv _;have ex:=shs s hs 0 _ x e0 (m1 0 x _ rfl e0);have ey:=shs s hs 0 _ y e0 (m3 0 y _ rfl e0);show TL.LtK (.tup [.int _,.int (pW rs _ x:Int),.int (lC rs x).2.2,gO rs x,gO rs z]) (.tup [.int _,.int (pW rs _ y:Int),.int (lC rs y).2.2,gO rs y,gO rs z']);unfold pW;rw[ex,ey];exact .at [_,_,_] _ _ l
    | [z],[],[],_,_,_,_=>
     exact .at [_,_,_,_] [] [] l
    |_::_::_,_,_,e,_,_,_=>simp at e;omega
    | [_],_::_,_,e,_,_,_=>simp at e;omega
    | [_],_,_::_,_,e,_,_=>simp at e;omega
    | [],_::_::_,_,e,_,_,_=>simp at e;omega
    | [],_,_::_::_,_,e,_,_=>simp at e;omega
    | [],[],[_],e,e',_,_=>simp at e e';omega
    | [],[_],[],e,e',_,_=>simp at e e';omega
  ·obtain⟨ts,hts,rfl⟩:=Nf.mp hx
   obtain⟨us,hus,rfl⟩:=Nf.mp hy;rcases hne with h1 | ⟨h1,q,hq,a,b,a',b',e1,e2,ho⟩
   ·obtain⟨r,er⟩:=wy rs (ye (s.1:Int) ts)
    obtain⟨r',er'⟩:=wy rs (ye (s'.1:Int) us);rw[er,er',AT,AT];exact .at [] _ _ (.int ⋯)
   ·obtain⟨l1,m1⟩:=gH hts
    obtain⟨l3,m3⟩:=gH hus;have g0:s.2.1[0]?=some a:=by rw[e1];rfl
    have g:s'.2.1[0]?=some a':=by rw[e2];rfl
    obtain⟨x,y,rfl⟩:=vL (by rw[l1,e1];rfl);obtain⟨c,m,rfl⟩:=vL (by rw[l3,e2];rfl);have ex:=shs s hs 0 _ x g0 (m1 0 x _ rfl g0);have j:=shs s' hs' 0 _ c g (m3 0 c _ rfl g);rw[<- h1];show TL.LtK (.tup [.int _,.int (pW rs _ x:Int),.int (lC rs x).2.2,gO rs x,gO rs y]) (.tup [.int _,.int (pW rs _ c:Int),.int (lC rs c).2.2,gO rs c,gO rs m]);have k:∀(t:bu) (a:TR),lC rs t=a.2->pW rs (s.1:Int) t=nC q.1 a:=λt a e=>by
     unfold pW nC;rw[MG,hq,e];simp
    rw[k x a ex,k c a' j,ex,j];rcases ho with ho | ⟨ho,n⟩
    ·exact .at [_] _ _ (.int ⋯)
    ·rw[ho];exact .at [_,_] _ _ (.int n)
theorem Hg{rs:Yaa}(hg:∀r∈rs,cU r){p:TR}(ok:d9 p):(RT rs p).Pairwise λt u=>TL.LtK (gO rs t) (gO rs u):=GK hg 17 p ok (by have:=ok.k16;push_cast;omega)
theorem Sd.inv{t:bu}{pc:bH}(h:Sd rs t p pc):∃(n:Nat) (v:RV),(t=.n0 n/\rs[n]?=some (0,v)/\pc=[v.sg])\/(∃t1 p1 q1,t=.n1 n t1/\rs[n]?=some (3,v)/\Sd rs t1 p1 q1/\pc=turned q1 v.t.toNat)\/(∃kd t1 t2 p1 p2 q1 q2,(kd=1\/kd=2)/\t=.n2 n t1 t2/\rs[n]?=some (kd,v)/\Sd rs t1 p1 q1/\Sd rs t2 p2 q2/\fj kd v [q1,q2]=some pc):=by
 cases h with
 |cell e=>exact⟨_,_,.inl ⟨rfl,e,rfl⟩⟩
 |turn e s=>exact⟨_,_,.inr (.inl ⟨_,_,_,rfl,e,s,rfl⟩)⟩
 |beside e s1 s2 m=>exact⟨_,_,.inr (.inr ⟨1,_,_,_,_,_,_,.inl rfl,rfl,e,s1,s2,m⟩)⟩
 |above e s1 s2 m=>exact⟨_,_,.inr (.inr ⟨2,_,_,_,_,_,_,.inr rfl,rfl,e,s1,s2,m⟩)⟩
abbrev rg:Stmt:=h_ 70
inductive kZ(n:Nat)(vs:List V)(H:Hp)(Q:VK)(_E:XK):Prop
 |mk (lr:Addr) (v:V) (t:bu) (ts:Ny) (rs:Yaa) (p:TR) (pc:bH) (_:vs=[.ref lr,v,.int 6]) (_:dX H lr ts rs) (_:(∀r∈rs,cU r)) (_:bg H t.d v) (_:Sd rs t p pc) (_:t.dep<=n) (_:cS H pc Q)
theorem uO:az ["_law_rules","_law_tree","_law_side","_law_rule_here","_law_one","_law_other"] ["_law_rules","_law_tree","_law_side"] (am rg):=by walk_at "c"
theorem uS{f:Addr}(F:cE K "_law_laid" "_law_laid" rg f fd)(nb:NB mg)(zJa:↑cW 1 "_law_turned" ["_law_picture","_law_t"] (kJ K))(zKa:↑cW 1 "_law_joined" ["_law_one","_law_other","_law_side","_law_most"] ku)(hm:mg "_law_laid"=some (.ref f))(hk:W.keepIn K (.ref f)=true)(hb:bU K fd ["_law_rules","_law_tree","_law_side"] []):∀n,n<=60->↑aY (n+2) f fd ["_law_rules","_law_tree","_law_side"] (kZ n)
 |0,_=>by
  refine F.ok uO (λvs H Q E h=>?_) (λcdv A outer s H vs Q E hr h=>?_)
  ·obtain⟨lr,v,t,ts,rs,p,pc,rfl,_⟩:=h;rfl
  ·obtain⟨lr,v,t,ts,rs,p,pc,rfl,_,_,_,_,hd,_⟩:=h
   have:=t.dep1;omega
 |n+1,hn=>by
  have sc:=uO;have zEa:↑cW (n+2) "_law_laid" ["_law_rules","_law_tree","_law_side"] (kZ n):=⟨f,fd,uS F nb zJa zKa hm hk hb n ⋯,hm,hk,hb⟩;walk_at "f"
  ·obtain⟨lr,v,t,ts,rs,p,pc,rfl,hR,hg,ht,sd,hd,q⟩:=h
   have hu:=hr.units;refine⟨_,(af (q01 3 sc.nd (au aO (al 0) (au ar (al 1) ai (λ_ _=>rfl)) (λ_ _=>rfl)))
   (af (bp (aH c7 (au ar (al 3) ai (λ_ _=>rfl)) ai (aL _))
   (aj (aG (bz (aa (au ar (al 3) ai (λ_ _=>rfl)) ac))))
   aN)
   (af (q01 4 sc.nd (aF zEa (hr.mono ⋯) rfl aR (aa (al 0) (aa (au ar (al 1) ai (λ_ _=>rfl)) (aa (al 2) ac)))))
   (af (bp (PW.pt (fm (aH wG (al 4) f_ (aL _)) (fB (aH c7 (au ar (al 3) ai (λ_ _=>rfl)) ai (aL _)))))
   (aj (aG (sH (aH wG (al 4) f_ (aL _)) (al 4) (aF zJa (hr.mono ⋯) rfl aR (aa (al 4) (aa (au ar (al 3) ai (λ_ _=>rfl)) ac))))))
   aN)
   (af (q01 5 sc.nd (aF zEa (hr.mono ⋯) rfl aR (aa (al 0) (aa (au ar (al 1) ai (λ_ _=>rfl)) (aa (al 2) ac)))))
   (af (bp (aH wG (al 5) f_ (aL _))
   (aj (aG f_))
   aN)
   (aj (aG (aF zKa (hr.mono ⋯) rfl aR (aa (al 4) (aa (al 5) (aa (gw c7 (au ar (al 3) ai (λ_ _=>rfl)) ai (aL _)) (aa (al 2) ac))))))))))))),?_⟩
   have row:∀(k:Nat) (r:Nat×RV),rs[k]?=some r->∃tk,dY (ts.map V.ref) (k:Int)=some (V.ref tk)/\H tk=some (.tup (fu r)):=λk r e=>by
    obtain⟨tk,htk⟩:∃tk,ts[k]?=some tk:=⟨_,Mv (by have:=(Mw.mp e).1;have:=hR.2.1;omega)⟩;exact⟨tk,aM (by rw[MA,htk];rfl),hR.2.2 k tk r htk e⟩
   obtain⟨a,vs,rfl,hta,htr⟩:=bu.val ht;obtain⟨k,v,⟨rfl,e,rfl⟩ | ⟨t1,p1,q1,rfl,e,s1,rfl⟩ | ⟨kd,t1,t2,p1,p2,q1,q2,hkd,rfl,e,s1,s2,m⟩⟩:=sd.inv
   ·obtain⟨tk,ha,htk⟩:=row k _ e
    symm;refine⟨_,aV.of hta,_,fz _ _,_,_,rfl,aT.of hR.1,_,ha,h1 _ _ ?_⟩;grind;refine⟨_,aV.of htk,_,rfl,rfl,?_⟩;rw[q07 rfl];exact⟨_,aV.of htk,_,rfl,ao nofun,λl hl=>q l _ hl ad (ae hl)⟩
   ·obtain⟨tk,ha,htk⟩:=row k _ e
    symm;refine⟨_,aV.of hta,_,fz _ _,_,_,rfl,aT.of hR.1,_,ha,h1 _ _ ?_⟩;grind;refine⟨_,aV.of htk,_,rfl,rfl,?_⟩;rw[q06 nofun];refine h1 _ _ ?_;grind;obtain⟨x1,ys,rfl,hx1,htr2⟩:=(show aP H [t1.d] vs from htr).uncons;have hd1:t1.dep<=n:=by have:t1.dep+1<=n+1:=hd;omega
    refine⟨_,aV.of hta,x1,(show dY (V.int _::x1::ys) ((1:Nat):Int)=_ from aM rfl),lr,x1,t1,ts,rs,p1,q1,rfl,hR,hg,hx1,s1,hd1,λl H1 hl o b=>h1 _ _ ?_⟩;grind;have g:=b _ _ htk;refine⟨_,aV.of g,_,rfl,rfl,?_⟩;rw[q07 rfl];have Y:=(hg _ (MB e)).good;have t0:0<=v.t:=Y.t0;have t7:v.t<=7:=Y.t7;have y:=s1.pic hg;have:=y.r6;have:=y.c6;refine⟨_,aV.of g,_,rfl,l,q1,p1.2.1,p1.2.2.1,v.t.toNat,by rw[Nm t0],o,y.rc,y.r0,y.c0,⋯,⋯,⋯,λJ H2 o C j=>q J H2 (b.free o) C (b.trans j)⟩
   ·obtain⟨tk,ha,htk⟩:=row k _ e
    symm;refine⟨_,aV.of hta,_,fz _ _,_,_,rfl,aT.of hR.1,_,ha,h1 _ _ ?_⟩;clear h1;have S:fu (kd,v)=[.str (tx v.n),.int v.c,.int (kd:Int),.str (tx v.o1),.str (tx v.o2)]:=by rcases hkd with rfl | rfl<;>rfl
    rw[S]at htk;symm;refine⟨_,aV.of htk,_,rfl,rfl,?_⟩;rw[q06 (by intro e;have:=V.int.inj e;omega)];refine h1 _ _ ?_;grind;obtain⟨x1,ys,rfl,hx1,htr2⟩:=(show aP H [t1.d,t2.d] vs from htr).uncons;obtain⟨G,U,rfl,L,htr3⟩:=htr2.uncons;have hd1:max t1.dep t2.dep+1<=n+1:=hd;refine⟨_,aV.of hta,x1,(show dY (V.int _::x1::G::U) ((1:Nat):Int)=_ from aM rfl),lr,x1,t1,ts,rs,p1,q1,rfl,hR,hg,hx1,s1,⋯,λl H1 hl o b=>h1 _ _ ?_⟩;grind;have g:=b _ _ htk;refine⟨_,aV.of g,_,rfl,rfl,?_⟩;rw[q06 (by intro e;have:=V.int.inj e;omega)];refine h1 _ _ ?_;grind;refine⟨_,aV.of (b _ _ hta),G,(show dY (V.int _::x1::G::U) ((2:Nat):Int)=_ from aM rfl),lr,G,t2,ts,rs,p2,q2,rfl,hR.up b,hg,L.up (du.of b) _,s2,⋯,λJ H2 C R j=>h1 _ _ ?_⟩;clear h1;have u:=b.trans j;symm;refine h1 _ _ ?_;clear h1;ext;have B:=j _ _ g;have D:(if decide (V.int (kd:Int)=V.int 1)=true then 1 else 2)=kd:=by rcases hkd with rfl | rfl<;>rfl
    refine⟨_,aV.of B,_,rfl,rfl,l,J,q1,q2,p1.2.1,p1.2.2.1,p2.2.1,p2.2.2.1,decide (V.int (kd:Int)=V.int 1),6,rfl,j _ _ o,R,s1.pic hg,s2.pic hg,Int.le_refl _,λpc' x l3 Z O M I=>?_,λZ hn _=>?_⟩
    ·rw[D]at x
     have T:=(x v).symm.trans m;cases T;exact q l3 Z (u.free O) M (u.trans I)
    ·rw[D]at hn
     have T:=(hn rfl v).symm.trans m;cases T
theorem Lh{rs:Yaa}{t:bu}{n:Nat}{q:Nat×RV}(hi:t.i=(n:Int))(hq:rs[n]?=some q):q.2.c+(t.ps.map λt=>(lC rs t).2.2).sum=(lC rs t).2.2:=by
 cases t<;>(simp only[bu.i]at hi;subst hi;simp[lC,bu.ps,hq])
abbrev rC:Stmt:=h_ 71
inductive lg(n:Nat)(vs:List V)(H:Hp)(Q:VK)(_E:XK):Prop
 |mk (lr:Addr) (v:V) (tl:Ny) (rs:Yaa) (t:bu) (p:TR) (pc:bH) (_:vs=[.ref lr,v]) (_:dX H lr tl rs) (_:(∀r∈rs,cU r)) (_:bg H t.d v) (_:Sd rs t p pc) (_:t.dep<=n) (_:∀H',aE H H'->Q (.int p.2.2.2) H')
theorem ul:az ["_law_rules","_law_tree"] ["_law_rules","_law_tree"] (am rC):=by walk_at "c"
theorem uC{f:Addr}(F:cE K "_law_cost" "_law_cost" rC f fd)(nb:NB mg)(yaj:mg "sum"=none)(hm:mg "_law_cost"=some (.ref f))(hk:W.keepIn K (.ref f)=true)(hb:bU K fd ["_law_rules","_law_tree"] []):∀n,n<=60->↑aY (n+1) f fd ["_law_rules","_law_tree"] (lg n)
 |0,_=>by
  refine F.ok ul (λvs H Q E h=>?_) (λcdv A outer s H vs Q E hr h=>?_)
  ·obtain⟨lr,v,tl,rs,t,p,pc,rfl,_⟩:=h;rfl
  ·obtain⟨lr,v,tl,rs,t,p,pc,rfl,_,_,_,_,h,_⟩:=h
   have:=t.dep1;omega
 |n+1,hn=>by
  have sc:=ul;have zLa:↑cW (n+1) "_law_cost" ["_law_rules","_law_tree"] (lg n):=⟨f,fd,uC F nb yaj hm hk hb n ⋯,hm,hk,hb⟩;walk_at "f"
  ·obtain⟨lr,v,tl,rs,t,p,pc,rfl,hR,hg,ht,sd,hd,q⟩:=h
   refine⟨_,(aj (aG (aA (br.m0 bP) (au ar (au aO (al 0) (au ar (al 1) ai (λ_ _=>rfl)) (λ_ _=>rfl)) ai (λ_ _=>rfl)) (ax (li rfl) rfl yaj uU (aa (b7 ["_law_part"] [0] rfl (bB.of (by kernel_rfl)) (by kernel_rfl) (wb (cJ kD (al 1) (cP ai) eC))
    (λ_ _ _ _=>(aD (i:=0) (by show(["_law_part","_law_rules"]:List Str).Nodup;decide +kernel) rfl (Or.inl rfl))) (λ_ _ _ _=>bK) (λ_ _ _ _=>(aF zLa (hr.mono ⋯) rfl aR (aa (al 1) (aa (al 0) ac))))) ac))))),?_⟩
   obtain⟨a,vs,rfl,hta,htr⟩:=bu.val ht;have hvl:=lu htr;obtain⟨i,r,ps,hi,hri,_,hpl,hp2,hsub,_⟩:=sd.node hg;rw[hi]at hta;obtain⟨ti,hti⟩:∃ti,tl[i]?=some ti:=⟨_,Mv (by rw[hR.2.1];exact(Mw.mp hri).1)⟩;ext;refine⟨_,aV.of hta,_,fz _ _,_,_,rfl,aT.of hR.1,V.ref ti,aM (by rw[MA,hti];rfl),ti,rfl,_,aV.of (hR.2.2 i ti r hti hri),_,(qA r).2,_,aV.of hta,nh _ _,λp1 hp=>?_⟩;rw[Ek];have s1:=ae (o:=.tup vs) hp;have ep:aC H p1 (.tup vs) p1=some (.tup vs):=ad;generalize aC H p1 (.tup vs)=H1 at s1 ep ⊢;refine⟨⟨_,aV.of ep⟩,?_⟩;refine xL (xs:=vs) (λj acc σ H'=>aE H H'/\H' p1=some (.tup vs)/\acc=((t.ps.map λt=>(lC rs t).2.2).take j).map V.int/\j<=vs.length/\∃z,σ=[z,some (V.ref lr)]) ⟨s1,ep,rfl,MV _,_,rfl⟩ ?_ (λj acc σ H' h=>h.2.2.2.1) (λj acc σ H' h=>aV.of h.2.1) ?_ ?_
   ·rintro j acc σ H' ⟨_,_,rfl,hj,_⟩
    rw[My,Na];exact bf ⋯
   ·rintro j x acc σ H' hx ⟨sm,hp',rfl,hj,z,rfl⟩
    obtain⟨s',hs',ht'⟩:=kY htr hx;have hlt:=(bu.lt (MB hs')).1;have hjl:=(Mw.mp hs').1;obtain⟨pc',sd',_⟩:=hsub j s' _ hs' (Mv ⋯);ext;refine⟨lr,x,tl,rs,s',_,pc',rfl,hR.up sm,hg,ht'.up (du.of sm) _,sd',⋯,λH2 s2=>⟨sm.trans s2,s2 _ _ hp',?_,(Mw.mp hx).1⟩⟩;rw[List.take_succ,MA,hs',<- sd'.sh];simp
   ·rintro acc σ H' ⟨sm,hp',rfl,_,_⟩
    intro l hl;rw[hvl,<- My (f:=λt=>(lC rs t).2.2),M'];refine⟨_,aT.of ad,_,rfl,?_⟩;rw[Lh hi hri,sd.sh];exact q _ (sm.trans (ae hl))
abbrev vZ:Stmt:=h_ 73
inductive qZ(n:Nat)(vs:List V)(H:Hp)(Q:VK)(_E:XK):Prop
 |mk (lr:Addr) (v:V) (t:bu) (ts:Ny) (rs:Yaa) (p:TR) (pc:bH) (_:vs=[.ref lr,v]) (_:dX H lr ts rs) (_:(∀r∈rs,cU r)) (_:bg H t.d v) (_:Sd rs t p pc) (_:t.dep<=n) (_:∀v' H',bg H' (gO rs t) v'->aE H H'->Q v' H')
theorem xN:az ["_law_rules","_law_tree","_law_rule_here","_law_first","_law_extent","_law_cost_here"] ["_law_rules","_law_tree"] (am vZ):=by walk_at "c"
theorem yw(i:Int):bg H (.int i) (.int i):=by unfold bg;rfl
theorem xB{f:Addr}(F:cE K "_law_key" "_law_key" vZ f fd)(nb:NB mg)(zEa:↑cW 18 "_law_laid" ["_law_rules","_law_tree","_law_side"] (kZ 16))(zLa:↑cW 17 "_law_cost" ["_law_rules","_law_tree"] (lg 16))(hm:mg "_law_key"=some (.ref f))(hk:W.keepIn K (.ref f)=true)(hb:bU K fd ["_law_rules","_law_tree"] []):∀n,n<=16->↑aY (n+19) f fd ["_law_rules","_law_tree"] (qZ n)
 |0,_=>by
  refine F.ok xN (λvs H Q E h=>?_) (λcdv A outer s H vs Q E hr h=>?_)
  ·obtain⟨lr,v,t,ts,rs,p,pc,rfl,_⟩:=h;rfl
  ·obtain⟨lr,v,t,ts,rs,p,pc,rfl,_,_,_,_,hd,_⟩:=h
   have:=t.dep1;omega
 |n+1,hn=>by
  have sc:=xN;have zxb:↑cW (n+19) "_law_key" ["_law_rules","_law_tree"] (qZ n):=⟨f,fd,xB F nb zEa zLa hm hk hb n ⋯,hm,hk,hb⟩;walk_at "f"
  ·obtain⟨lr,v,t,ts,rs,p,pc,rfl,hR,hg,ht,sd,hd,q⟩:=h
   have hu:=hr.units;refine⟨_,(af (q01 2 sc.nd (au aO (al 0) (au ar (al 1) ai (λ_ _=>rfl)) (λ_ _=>rfl)))
   (af (bp (aH c7 (au ar (al 2) ai (λ_ _=>rfl)) ai (aL _))
   (aj (aG (aQ (aa (au ar (al 1) ai (λ_ _=>rfl)) ac))))
   aN)
   (af (bp (aH c7 (au ar (al 2) ai (λ_ _=>rfl)) ai (aL _))
   (aj (aG (aQ (aa (au ar (al 1) ai (λ_ _=>rfl)) (aa (aF zxb (hr.mono ⋯) rfl aR (aa (al 0) (aa (au ar (al 1) ai (λ_ _=>rfl)) ac))) ac)))))
   aN)
   (af (q01 3 sc.nd (aF zEa (hr.mono ⋯) rfl aR (aa (al 0) (aa (au ar (al 1) ai (λ_ _=>rfl)) (aI ac)))))
   (af (q01 4 sc.nd (ax aX rfl nb.len aW (aa (al 3) ac)))
   (af (bp (aH c7 (au ar (al 2) ai (λ_ _=>rfl)) ai (aL _))
   (aj (q01 4 sc.nd (ax a_ rfl nb.len aW (aa (au aO (al 3) ai (λ_ _=>rfl)) ac))))
   aN)
   (af (q01 5 sc.nd (aF zLa (hr.mono ⋯) rfl aR (aa (al 0) (aa (au ar (al 1) ai (λ_ _=>rfl)) ac))))
   (aj (aG (aQ (aa (au ar (al 1) ai (λ_ _=>rfl)) (aa (al 4) (aa (al 5) (aa (aF zxb (hr.mono ⋯) rfl aR (aa (al 0) (aa (au ar (al 1) ai (λ_ _=>rfl)) ac))) (aa (aF zxb (hr.mono ⋯) rfl aR (aa (al 0) (aa (au ar (al 1) ai (λ_ _=>rfl)) ac))) ac))))))))))))))),?_⟩
   have row:∀(k:Nat) (r:Nat×RV),rs[k]?=some r->∃tk,dY (ts.map V.ref) (k:Int)=some (V.ref tk)/\H tk=some (.tup (fu r)):=λk r e=>by
    obtain⟨tk,htk⟩:∃tk,ts[k]?=some tk:=⟨_,Mv (by have:=(Mw.mp e).1;have:=hR.2.1;omega)⟩;exact⟨tk,aM (by rw[MA,htk];rfl),hR.2.2 k tk r htk e⟩
   obtain⟨a,vs,rfl,hta,htr⟩:=bu.val ht;obtain⟨k,v,⟨rfl,e,rfl⟩ | ⟨t1,p1,q1,rfl,e,s1,rfl⟩ | ⟨kd,t1,t2,p1,p2,q1,q2,hkd,rfl,e,s1,s2,m⟩⟩:=sd.inv
   ·obtain⟨tk,ha,htk⟩:=row k _ e
    symm;refine⟨_,aV.of hta,_,fz _ _,_,_,rfl,aT.of hR.1,_,ha,h1 _ _ ?_⟩;clear h1;ext;refine⟨_,aV.of htk,_,rfl,rfl,?_⟩;rw[q07 rfl];refine⟨_,aV.of hta,_,fz _ _,ao nofun,λb hb=>q _ _ (bg.node ad aP.nil) (ae hb)⟩
   ·obtain⟨tk,ha,htk⟩:=row k _ e
    symm;refine⟨_,aV.of hta,_,fz _ _,_,_,rfl,aT.of hR.1,_,ha,h1 _ _ ?_⟩;grind;refine⟨_,aV.of htk,_,rfl,rfl,?_⟩;rw[q06 nofun];refine h1 _ _ ?_;clear h1;ext;refine⟨_,aV.of htk,_,rfl,rfl,?_⟩;rw[q07 rfl];obtain⟨x1,ys,rfl,hx1,htr2⟩:=(show aP H [t1.d] vs from htr).uncons;have hd1:t1.dep<=n:=by have:t1.dep+1<=n+1:=hd;omega
    refine⟨_,aV.of hta,_,fz _ _,_,aV.of hta,x1,(show dY (V.int _::x1::ys) ((1:Nat):Int)=_ from aM rfl),lr,x1,t1,ts,rs,p1,q1,rfl,hR,hg,hx1,s1,hd1,λv' H1 a0 j=>⟨ao nofun,λb hb=>q _ _ (bg.node ad (aP.cons (a0.up (du.of (ae hb)) _) aP.nil)) (j.trans (ae hb))⟩⟩
   ·obtain⟨tk,ha,htk⟩:=row k _ e
    symm;refine⟨_,aV.of hta,_,fz _ _,_,_,rfl,aT.of hR.1,_,ha,h1 _ _ ?_⟩;clear h1;have a2:fu (kd,v)=[.str (tx v.n),.int v.c,.int (kd:Int),.str (tx v.o1),.str (tx v.o2)]:=by rcases hkd with rfl | rfl<;>rfl
    rw[a2]at htk;symm;refine⟨_,aV.of htk,_,rfl,rfl,?_⟩;rw[q06 (by intro e;have:=V.int.inj e;omega)];refine h1 _ _ ?_;grind;refine⟨_,aV.of htk,_,rfl,rfl,?_⟩;rw[q06 (by intro e;have:=V.int.inj e;omega)];refine h1 _ _ ?_;clear h1;obtain⟨x1,ys,rfl,hx1,htr2⟩:=(show aP H [t1.d,t2.d] vs from htr).uncons;obtain⟨G,zs,rfl,U,htr3⟩:=htr2.uncons;have hd1:max t1.dep t2.dep+1<=n+1:=hd;have y:dY (V.int (k:Int)::x1::G::zs) ((1:Nat):Int)=some x1:=aM rfl;have D:dY (V.int (k:Int)::x1::G::zs) ((2:Nat):Int)=some G:=aM rfl;have O:=s1.pic hg;symm;refine⟨_,aV.of hta,x1,y,lr,x1,t1,ts,rs,p1,q1,rfl,hR,hg,hx1,s1,⋯,λl H1 hl M j=>h1 _ _ ?_⟩;grind;refine⟨_,aT.of M,h1 _ _ ?_⟩;clear h1;have J:=j _ _ htk;have L:=j _ _ hta;obtain⟨a1,a4⟩:=dZ O.rc O.r0;rw[aw,O.rc.1];have x:(if kd=1 then p1.2.2.1 else p1.2.1)=pW rs (k:Int) t1:=by
     unfold pW;rw[MG,e,s1.sh];simp
    refine ak λN1 h1=>?_;have B:N1 [some (V.ref lr),some (V.ref a),some (V.ref tk),some (V.ref l),some (V.int (pW rs (k:Int) t1:Int)),none] H1:=by
     refine h1 _ _ ?_;grind;refine⟨_,aV.of L,x1,y,lr,x1,ts,rs,t1,p1,q1,rfl,hR.up j,hg,hx1.up (du.of j) _,s1,⋯,λH2 S=>h1 _ _ ?_⟩;clear h1;ext;have g:=j.trans S;refine⟨_,aV.of (g _ _ hta),_,fz _ _,_,aV.of (g _ _ hta),x1,y,lr,x1,t1,ts,rs,p1,q1,rfl,hR.up g,hg,hx1.up (du.of g) _,s1,⋯,λv1 H3 Z R=>?_⟩;have u:=g.trans R;refine⟨_,aV.of (u _ _ hta),G,D,lr,G,t2,ts,rs,p2,q2,rfl,hR.up u,hg,U.up (du.of u) _,s2,⋯,λv2 H4 Y I=>⟨ao nofun,λb hb=>q _ _ ?_ ((u.trans I).trans (ae hb))⟩⟩;have T:=ae (o:=.tup [V.int (k:Int),V.int (pW rs (k:Int) t1:Int),V.int p1.2.2.2,v1,v2]) hb;have a5:p1.2.2.2=(lC rs t1).2.2:=by rw[s1.sh]
     rw[a5]at T ⊢;exact bg.node ad (aP.cons (yw _) (aP.cons (yw _) (aP.cons ((Z.up (du.of I) _).up (du.of T) _) (aP.cons (Y.up (du.of T) _) aP.nil))))
    ext;refine⟨_,aV.of J,_,rfl,rfl,?_⟩;refine eF (λC=>?_) (λC=>?_)
    ·have a3:kd=1:=by have:=V.int.inj C;omega
     rw[q07 a3]at x;refine⟨_,aT.of M,_,(show dY _ ((0:Nat):Int)=_ from aM (bi a1)),_,rfl,by rw[ay];exact ao (by have:=O.c6;omega),?_⟩;rw[ay,a4,x];exact B
    ·rw[q06 (λh=>C (by rw[h];rfl))]at x
     rw[x];exact B
theorem xu{q:Nat×RV}{ps:List TR}(h4:q.1<4)(h:ps∈bT q r c k):ps.map (·.1)=bh q.1 q.2:=by
 obtain⟨t,v⟩:=q;rcases gu h4 with e | e | e | e<;>(simp only at e;subst e)
 ·change ps∈(if r=1/\c=1/\k=v.c then[[]] else[]) at h
  split at h
  ·rw[Mz.mp h];rfl
  ·cases h
 ·obtain⟨z,_,f,_,_,rfl⟩:=gB (show ps∈bc v.o1 v.o2 (fg r c) (k-v.c) from h)
  rfl
 ·obtain⟨z,_,f,_,_,rfl⟩:=gB (show ps∈bc v.o1 v.o2 (fF r c) (k-v.c) from h)
  rfl
 ·change ps∈[[_]]at h
  rw[Mz.mp h];rfl
theorem Cm{r:Nat×RV}(h4:r.1<4):dY (fu r) 2=some (V.int (r.1:Int))/\∃v3 v4,dY (fu r) 3=some v3/\dY (fu r) 4=some v4/\(r.1=1\/r.1=2->v3=V.str (tx r.2.o1)/\v4=V.str (tx r.2.o2)):=by
 obtain⟨k,v⟩:=r;rcases gu h4 with e | e | e | e<;>(simp only at e;subst e)
 ·exact⟨rfl,_,_,rfl,rfl,λh=>by rcases h with h | h<;>cases h⟩
 ·exact⟨rfl,_,_,rfl,rfl,λ_=>⟨rfl,rfl⟩⟩
 ·exact⟨rfl,_,_,rfl,rfl,λ_=>⟨rfl,rfl⟩⟩
 ·exact⟨rfl,_,_,rfl,rfl,λh=>by rcases h with h | h<;>cases h⟩
abbrev o6:Stmt:=h_ 72
inductive mx(n:Nat)(vs:List V)(H:Hp)(Q:VK)(_E:XK):Prop
 |mk (lr:Addr) (v:V) (t:bu) (ts:Ny) (rs:Yaa) (p:TR) (pc:bH) (dd:Int) (_:vs=[.ref lr,v,.str (tx p.1),.int dd]) (_:dX H lr ts rs) (_:rs.length<=1000) (_:(∀r∈rs,cU r)) (_:bg H t.d v) (_:Sd rs t p pc) (_:t.dep<=n) (_:(t.dep:Int)<=dd) (_:dd<=1000) (_:∀H',aE H H'->Q (.bl true) H')
theorem qT:az ["_law_rules","_law_tree","_law_name","_law_deep","_law_rule_here","_law_parts"] ["_law_rules","_law_tree","_law_name","_law_deep"] (am o6):=by walk_at "c"
theorem rQ{f:Addr}(F:cE K "_law_sound" "_law_sound" o6 f fd)(nb:NB mg)(zRa:↑cW 1 "_law_whole" ["_law_x"] mD)(hm:mg "_law_sound"=some (.ref f))(hk:W.keepIn K (.ref f)=true)(hb:bU K fd ["_law_rules","_law_tree","_law_name","_law_deep"] []):∀n,n<=16->↑aY (n+2) f fd ["_law_rules","_law_tree","_law_name","_law_deep"] (mx n)
 |0,_=>by
  refine F.ok qT (λvs H Q E h=>?_) (λcdv A outer s H vs Q E hr h=>?_)
  ·obtain⟨lr,v,t,ts,rs,p,pc,dd,rfl,_⟩:=h;rfl
  ·obtain⟨lr,v,t,ts,rs,p,pc,dd,rfl,_,_,_,_,_,hd,_⟩:=h
   have:=t.dep1;omega
 |n+1,hn=>by
  have sc:=qT;have zyb:↑cW (n+2) "_law_sound" ["_law_rules","_law_tree","_law_name","_law_deep"] (mx n):=⟨f,fd,rQ F nb zRa hm hk hb n ⋯,hm,hk,hb⟩;walk_at "f"
  ·obtain⟨lr,v,t,ts,rs,p,pc,dd,rfl,hR,hrl,hg,ht,sd,hd,hdd,hd2,q⟩:=h
   have hu:=hr.units;refine⟨_,(af (bp (PW.pt (fm (fq (gi (ax b_ rfl nb.isinstance cu (aa (al 1) (aa (n_ (v:=.ty "tuple") rfl nb.tuple xi rfl) ac))) λ_=>rfl)) (fm (aH c7 (ax ph rfl nb.len aW (aa (al 1) ac)) ai (aL _)) (fm (aH c7 (al 3) ai (aL _)) (fB (fq (gi (aF zRa (hr.mono ⋯) rfl aR (aa (au ar (al 1) ai (λ_ _=>rfl)) ac)) λ_=>rfl)))))))
   (aj (aG nK))
   aN)
   (af (bp (PW.pt (fm (fq (qI (br.m0 mj) (br.m0 pC) ai (au ar (al 1) ai (λ_ _=>rfl)) (ax aX rfl nb.len aW (aa (al 0) ac)))) (fB (aH nu (au ar (au aO (al 0) (au ar (al 1) ai (λ_ _=>rfl)) (λ_ _=>rfl)) ai (λ_ _=>rfl)) (al 2) (aL _)))))
   (aj (aG nK))
   aN)
   (af (q01 4 sc.nd (au aO (al 0) (au ar (al 1) ai (λ_ _=>rfl)) (λ_ _=>rfl)))
   (af (q01 5 sc.nd (au aO (bz (aa (bz ac) (aa (bz (aa (au ar (al 4) ai (λ_ _=>rfl)) (aa (au ar (al 4) ai (λ_ _=>rfl)) ac))) (aa (bz (aa (au ar (al 4) ai (λ_ _=>rfl)) (aa (au ar (al 4) ai (λ_ _=>rfl)) ac))) (aa (bz (aa (au ar (al 4) ai (λ_ _=>rfl)) ac)) ac))))) (au ar (al 4) ai (λ_ _=>rfl)) (λ_ _=>rfl)))
   (af (bp (aH nu (ax ph rfl nb.len aW (aa (al 1) ac)) (aA (br.m0 bP) (ax aX rfl nb.len aW (aa (al 5) ac)) ai) (aL _))
   (aj (aG nK))
   aN)
   (aj (aG (ax (xH rfl) rfl nb.all Dv (aa (b7 ["_law_k","_law_part"] [0,1,3] rfl (bB.of (by kernel_rfl)) (by kernel_rfl) (nL rfl nb.enumerate (aa (al 5) ac))
    (λ_ _ _ _=>(qq (K:=K) (n:=2) rfl rfl (aU (aD (i:=0) (by show(["_law_k","_law_part","_law_rules","_law_tree","_law_deep"]:List Str).Nodup;decide +kernel) rfl (Or.inl rfl)) (aU (aD (i:=1) (by show(["_law_k","_law_part","_law_rules","_law_tree","_law_deep"]:List Str).Nodup;decide +kernel) rfl (Or.inl rfl)) cY)))) (λ_ _ _ _=>bK) (λ_ _ _ _=>(aF zyb (hr.mono ⋯) rfl aR (aa (al 2) (aa (au (wv (K:=K) rfl) (al 3) (aA (br.m0 bP) (al 0) ai) (λ_ _=>rfl)) (aa (al 1) (aa (aA (br.m0 fk) (al 4) ai) ac))))))) ac))))))))),?_⟩
   obtain⟨a,vs,rfl,hta,htr⟩:=bu.val ht;have hvl:=lu htr;obtain⟨i,r,ps,hi,hri,hrn,hpl,hp2,hsub,hpr⟩:=sd.node hg;rw[hi]at hta;have hil:i<rs.length:=(Mw.mp hri).1;obtain⟨ti,hti⟩:∃ti,ts[i]?=some ti:=⟨_,Mv (by rw[hR.2.1];exact hil)⟩;have eat:dY (ts.map V.ref) (i:Int)=some (V.ref ti):=aM (by rw[MA,hti];rfl);have hrow:=hR.2.2 i ti r hti hri;have hln:(ts.map V.ref).length=rs.length:=by rw[My];exact hR.2.1
   have hdp1:=t.dep1;symm;refine⟨_,je.tup hta,true,nw K _,?_⟩;rw[q06 nofun];refine⟨_,aV.of hta,?_⟩;rw[q06 (by simp;omega),q06 ⋯];refine⟨_,aV.of hta,_,fz _ _,?_⟩;refine⟨_,rfl,_,rfl,?_⟩;rw[q06 nofun];refine h1 _ _ ?_;grind;refine⟨_,aV.of hta,_,fz _ _,_,rfl,?_⟩;rw[q07 ⋯];refine⟨_,aT.of hR.1,_,rfl,?_⟩;rw[q06 (by rw[hln];omega)];refine⟨_,aV.of hta,_,fz _ _,_,_,rfl,aT.of hR.1,_,eat,_,rfl,_,aV.of hrow,_,(qA r).1,rfl,?_⟩;rw[hrn,q06 (λh=>h rfl)];refine h1 _ _ ?_;grind;refine⟨_,aV.of hta,_,fz _ _,_,_,rfl,aT.of hR.1,_,eat,h1 _ _ ?_⟩;grind;refine⟨nofun,λp1 Y=>?_⟩;generalize z1:aC H p1 _=H1;obtain⟨s1,e1⟩:=xb Y z1;obtain⟨r2,v3,v4,I,r4,G⟩:=Cm (hg r (MB hri)).k4;refine⟨_,aV.of (s1 _ _ hrow),_,I,_,aV.of (s1 _ _ hrow),_,r4,nofun,λp2 hp2=>?_⟩;generalize z2:aC H1 p2 _=H2;obtain⟨s2,e2⟩:=xb hp2 z2;have c:=s1.trans s2;refine⟨_,aV.of (c _ _ hrow),_,I,_,aV.of (c _ _ hrow),_,r4,nofun,λp3 U=>?_⟩;generalize z3:aC H2 p3 _=H3;obtain⟨s3,e3⟩:=xb U z3;have k:=c.trans s3;refine⟨_,aV.of (k _ _ hrow),_,I,nofun,λp4 S=>?_⟩;generalize z4:aC H3 p4 _=H4;obtain⟨B,e4⟩:=xb S z4;have C:=k.trans B;refine⟨nofun,λp5 R=>?_⟩;generalize z5:aC H4 p5 _=H5;obtain⟨u,e5⟩:=xb R z5;have b:=C.trans u;obtain⟨px,M,o⟩:∃px,dY [V.ref p1,V.ref p2,V.ref p3,V.ref p4] (r.1:Int)=some (V.ref px)/\H5 px=some (.lst (aJ (bh r.1 r.2))):=by
    obtain⟨kd,v⟩:=r;rcases gu (hg _ (MB hri)).k4 with h | h | h | h<;>(simp only at h;subst h)
    ·exact⟨p1,aM (j:=0) rfl,(((s2.trans s3).trans B).trans u) _ _ e1⟩
    ·exact⟨p2,aM (j:=1) rfl,by rw[((s3.trans B).trans u) _ _ e2,(G (.inl rfl)).1,(G (.inl rfl)).2];rfl⟩
    ·exact⟨p3,aM (j:=2) rfl,by rw[(B.trans u) _ _ e3,(G (.inr rfl)).1,(G (.inr rfl)).2];rfl⟩
    ·have a7:v3=V.str (tx v.o1):=(q0P I).symm
     exact⟨p4,aM (j:=3) rfl,by rw[u _ _ e4,a7];rfl⟩
   have D:=b;have a2:=b _ _ hrow;have J:=b _ _ hta;clear s1 e1 s2 e2 s3 e3 B e4 c k C z1 z2 z3 z4 Y hp2 U S R I r4 G;refine⟨_,aV.of a2,_,r2,_,_,rfl,aT.of e5,_,M,h1 _ _ ?_⟩;clear h1 u e5 z5 M b;have Z:=xu (hg r (MB hri)).k4 hpr;have O:(bh r.1 r.2).length=t.ps.length:=by rw[<- Z,My,hpl]
   symm;refine⟨_,aV.of J,_,aT.of o,?_⟩;rw[q06 (λh=>h (by rw[aw,O,MI,hvl];push_cast;rfl))];refine h1 _ _ ?_;clear h1;ext;refine⟨_,aT.of o,?_⟩;refine zP (as:=bh r.1 r.2) (emb:=λx=>V.str (tx x)) (f:=λ_ _=>some (V.bl true)) (λσ=>∃x y,σ=[x,y,some (V.ref lr),some (V.ref a),some (V.int dd)]) ⟨_,_,rfl⟩ (λH' s'=>aT.of (s' _ _ o)) (by have:=t.plen;omega) ?_ ?_
   ·rintro j x hx σ H' T N1 N0 ⟨y1,y2,rfl⟩ sm hT k1 k0
    generalize z1:aC H' T _=H6;obtain⟨s6,e6⟩:=xb hT z1;ext;have hjl:=(Mw.mp hx).1;have m:t.ps[j]?=some (t.ps[j]'⋯):=Mv _;have a1:ps[j]?=some (ps[j]'⋯):=Mv _;obtain⟨a4,a3,_⟩:=hsub j _ _ m a1;have a0:vs[j]?=some (vs[j]'⋯):=Mv _;obtain⟨t',L,a5⟩:=kY htr a0;rw[m]at L;cases L;have hlt:=(bu.lt (MB m)).1;have a6:x=(ps[j]'⋯).1:=by
     rw[<- Z,MA,a1]at hx;exact(q0P hx).symm
    have g:=(D.trans sm).trans s6;refine⟨_,aV.of e6,rfl,_,_,rfl,_,_,rfl,rfl,_,rfl,_,aV.of (g _ _ hta),_,(show dY (V.int _::vs) ((j+1:Nat):Int)=_ from aM a0),lr,_,_,ts,rs,_,a4,dd-1,by rw[a6],hR.up g,hrl,hg,a5.up (du.of g) _,a3,⋯,⋯,⋯,λH7 s7=>k1 _ _ _ rfl ((sm.trans s6).trans s7) ⟨_,_,rfl⟩⟩
   ·intro H' sm l hl
    refine⟨xR (bh r.1 r.2).length,?_,?_⟩
    ·have e:∀(zs:List (List Nat)) (n:Nat),(zs.zipIdx n).filterMap (λ_=>some (V.bl true))=(xR zs.length).map V.bl:=λzs n=>by
      unfold xR;rw[jD,List.map_const',List.length_zipIdx,List.map_replicate]
     rw[e];exact aT.of ad
    ·rw[BW]
     exact q _ ((D.trans sm).trans (ae hl))
abbrev vT:Stmt:=h_ 75
inductive qP(vs:List V)(H:Hp)(Q:VK)(_E:XK):Prop
 |mk (lr lf sh:Addr) (ts:Ny) (rs:Yaa) (p:TR) (_:vs=[.ref lr,.ref lf,.ref sh]) (_:dX H lr ts rs) (_:rs.length<=1000) (_:(∀r∈rs,cU r)) (_:GZ H lf (RT rs p)) (_:(RT rs p).length<=300) (_:H sh=some (.tup (ce p))) (_:d9 p) (_:∀H',aE H H'->Q (.bl true) H')
theorem Ee:az ["_law_rules","_law_found","_law_shape","_law_ahead","_law_tree","_law_picture","_law_key_here"] ["_law_rules","_law_found","_law_shape"] (am vT):=by walk_at "c"
theorem ET{f:Addr}(F:cE K "_law_row" "_law_row" vT f fd)(nb:NB mg)(zyb:↑cW 18 "_law_sound" ["_law_rules","_law_tree","_law_name","_law_deep"] (mx 16))(zEa:↑cW 18 "_law_laid" ["_law_rules","_law_tree","_law_side"] (kZ 16))(zLa:↑cW 17 "_law_cost" ["_law_rules","_law_tree"] (lg 16))(zxb:↑cW 35 "_law_key" ["_law_rules","_law_tree"] (qZ 16)):↑aY 36 f fd ["_law_rules","_law_found","_law_shape"] qP:=by
 have sc:=Ee;walk_at "f"
 ·obtain⟨G,lf,sh,T,v,p,rfl,hR,a6,c,⟨vs,J,hT⟩,h300,a5,ok,q⟩:=h
  have hu:=hr.units;have a4:=hr.units210;refine⟨_,(af (q01 3 sc.nd f_)
   (af (bL PassesOwn.never rfl (cG (al 1)) (q02 4 sc.nd)
   (af (bp (fq (gi (aF zyb (hr.mono nofun) rfl aR (aa (al 0) (aa (al 4) (aa (au ar (al 2) ai (λ_ _=>rfl)) (aI ac))))) λ_=>rfl))
   (aj (aG nK))
   aN)
   (af (q01 5 sc.nd (aF zEa (hr.mono nofun) rfl aR (aa (al 0) (aa (al 4) (aI ac)))))
   (af (bp (PW.pt (fm (aH wG (al 5) f_ (aL _)) (fm (aH (E_ hu) (aQ (aa (ax aX rfl nb.len aW (aa (al 5) ac)) (aa (ax a_ rfl nb.len aW (aa (au aO (al 5) ai (λ_ _=>rfl)) ac)) ac))) (cJ kD (al 2) (cP ai) (cP ai)) (aL _)) (fB (aH nu (aF zLa (hr.mono nofun) rfl aR (aa (al 0) (aa (al 4) ac))) (au ar (al 2) ai (λ_ _=>rfl)) (aL _))))))
   (aj (aG nK))
   aN)
   (af (q01 6 sc.nd (aF zxb (hr.mono nofun) rfl aR (aa (al 0) (aa (al 4) ac))))
   (af (bp (PW.pt (m7 (aH uX (al 3) f_ (aL _)) (og (fq (aH (G_ a4) (al 3) (al 6) (aL _))))))
   (aj (aG nK))
   aN)
   (aj (q01 3 sc.nd (al 6)))))))))
   (aj (aG nK)))),?_⟩
  have a3:=hT.length;rw[My]at a3;have b0:dY (ce p) 0=some (V.str (tx p.1)):=aM (j:=0) rfl;have b3:dY (ce p) 3=some (V.int p.2.2.2):=aM (j:=3) rfl;symm;refine h1 _ _ ?_;grind;refine⟨⟨_,aT.of J⟩,?_⟩;refine dh (xs:=vs) (λi σ H'=>aE H H'/\i<=vs.length/\∃C y1 y2 Z,σ=[some (V.ref G),some (V.ref lf),some (V.ref sh),some C,y1,y2,Z]/\(C=.non\/∃j t,j<i/\(RT v p)[j]?=some t/\bg H' (gO v t) C)) ⟨aE.refl _,MV _,_,_,_,_,rfl,.inl rfl⟩ (λi σ H' hi h=>aT.of (h.1 _ _ J)) ?_ ?_
  ·rintro i x σ H1 hx ⟨D,hi,C,y1,y2,Z,rfl,R⟩
   obtain⟨d,O,a2⟩:=fH hT hx;rw[MA]at O;obtain⟨t,Y,rfl⟩:=MY.mp O;obtain⟨U,sd⟩:=AO c 17 p t ok (by have:=ok.k16;push_cast;omega) (MB Y);have hlow:=(sd.low c).2;have hdc:=t.dep_cnt;have k16:=ok.k16;have S:=sd.pic c;have a:t.dep<=16:=by omega
   have m:=a2.up (du.of D) _;have o:=hR.up D;have b:=D _ _ a5;have b2:=(Mw.mp hx).1;ac_nf;refine⟨_,aV.of b,_,b0,G,x,t,T,v,p,U,16,rfl,o,a6,c,m,sd,a,⋯,nofun,λH2 s2=>⟨true,rfl,?_⟩⟩;rw[q06 nofun];refine h2 _ _ ?_;walk_at "oc";refine⟨G,x,t,T,v,p,U,rfl,o.up s2,c,m.up (du.of s2) _,sd,a,λl H3 hl L s3=>h2 _ _ ?_⟩;clear h2;have I:=s2.trans s3;obtain⟨b1,b4⟩:=dZ S.rc S.r0;ac_nf;refine⟨_,aT.of L,_,aT.of L,_,(show dY _ ((0:Nat):Int)=_ from aM (bi b1)),_,rfl,by rw[ay];exact ao (by have:=S.c6;omega),ao nofun,λp1 a8=>?_⟩;rw[aw,S.rc.1,ay,b4];generalize z1:aC H3 p1 _=H4;obtain⟨s4,e4⟩:=xb a8 z1;refine⟨_,aV.of ((I.trans s4) _ _ b),λe=>(by cases e.1),λp2 a7=>?_⟩;rw[show iY (ce p) (some 1) (some 3)=[V.int (p.2.1:Int),V.int (p.2.2.1:Int)] from rfl];generalize z2:aC H4 p2 _=H5;obtain⟨s5,e5⟩:=xb a7 z2;have O:∀y,H5 y=some (.tup [V.int (p.2.1:Int),V.int (p.2.2.1:Int)])->bg H5 (.tup [.int (p.2.1:Int),.int (p.2.2.1:Int)]) (.ref y):=λy e=>bg.node e (aP.cons (yw _) aP.nil);refine .inl ⟨[.int (p.2.1:Int),.int (p.2.2.1:Int)],by simp[Dt.deps,Dt.dep],.inr ⟨bg.rd _ (O _ (s5 _ _ e4)),bg.rd _ (O _ e5)⟩,_,rfl,?_⟩;rw[q06 nofun];have k:=(I.trans s4).trans s5;refine⟨G,x,T,v,t,p,U,rfl,o.up k,c,m.up (du.of k) _,sd,a,λH6 s6=>⟨_,aV.of ((k.trans s6) _ _ b),_,b3,rfl,?_⟩⟩;rw[q06 (λh=>h rfl)];refine h2 _ _ ?_;clear h2;have g:=k.trans s6;ac_nf;refine⟨G,x,t,T,v,p,U,rfl,o.up g,c,m.up (du.of g) _,sd,a,λkv H7 M s7=>h2 _ _ ?_⟩;clear h2;have a1:=D.trans (g.trans s7);refine ak λN2 h2=>?_;have u:N2 [some (V.ref G),some (V.ref lf),some (V.ref sh),some C,some x,some (V.ref l),some kv] H7:=by
    refine h2 _ _ ?_;ext;exact⟨a1,b2,.inr ⟨i,M7 _,t,Y,M⟩⟩
   ext;rcases R with rfl | ⟨j,t',hj,B,n⟩
   ·rw[q06 (λh=>h rfl)];exact u
   ·have a9:C≠V.non:=λe=>by
     obtain⟨r,er⟩:=wy v t';rw[er]at n;unfold bg at n;obtain⟨_,_,e2,_⟩:=n;rw[e]at e2;cases e2
    rw[q07 a9];obtain⟨pc',a0⟩:=AO c 17 p t' ok (by push_cast;omega) (MB B);have hlow':=(a0.low c).2;have hdc':=t'.dep_cnt;have lt:=List.pairwise_iff_getElem.mp (Hg c ok) j i (Mw.mp B).1 (Mw.mp Y).1 hj;rw[(Mw.mp B).2,(Mw.mp Y).2]at lt;exact⟨_,_,lt,by rw[nX];omega,n.up (du.of (g.trans s7)) _,M,u⟩
  ·rintro σ H1 ⟨D,hi,C,y1,y2,Z,rfl,R⟩
   refine h1 _ _ ?_;ext;exact q _ D
abbrev jd:Stmt:=h_ 74
inductive iB(R:RC)(CG:Addr)(vs:List V)(H:Hp)(Q:VK)(_E:XK):Prop
 |mk (g dg sh:Addr) (sg st:Nu) (as:Ny) (rs:Yaa) (m:Nat) (p:TR) (_:vs=[.ref g,.ref sh]) (_:H sh=some (.tup (ce p))) (_:eJ R H CG dg g sg st as rs) (_:qV st rs m) (_:sM st rs m p) (_:300<CN rs p) (_:∀H',aE H H'->Q (.bl true) H')
theorem tD:az ["_law_grammar_here","_law_shape","_law_error","e"] ["_law_grammar_here","_law_shape"] (am jd):=by walk_at "c"
theorem tK{f yaa CM yac yah:Addr}{bmD:Nw}{nD:String}(F:cE K "_law_too_many" "_law_too_many" jd f fd)(nb:NB mg)
  (ybo:mg "QuiltError"=some (.ref yah)) (yaB:mg "TooMany"=some (.ref CM)) (yas:mg "NoNumber"=some (.ref yac))
  (ybc:o7 K yah bmD nD) (hbase:bmD.contains (.type "BaseException")=true) {bmM:Nw} {nM:String} (ya3:o7 K CM bmM nM) (und:En K CM yah) (xt:W.XTy K CM)
  (k1:W.kitOne K (.ref CM) (.ref CM)=some true) (k2:W.kitOne K (.ref CM) (.ref yac)=some false)
  (yam:cW P w K mg base (bI P w) 108 "trees_of" ["grammar","name","rows","columns","cost"] (ia R CG yaa CM)):↑aY 109 f fd ["_law_grammar_here","_law_shape"] (iB R CG):=by
 have sc:=tD;walk_at "f"
 ·obtain⟨g,B,sh,r,n,C,x,m,p,rfl,b,gr,ok,y,hbig,q⟩:=h
  have hu:=hr.units;refine⟨_,(af (q01 2 sc.nd f_)
   (af (yu (i:=3) sc.nd rfl rfl (H_ yam (hr.mono nofun) rfl (aa (al 0) (aa (au ar (al 1) ai (λ_ _=>rfl)) (aa (au ar (al 1) ai (λ_ _=>rfl)) (aa (au ar (al 1) ai (λ_ _=>rfl)) (aa (au ar (al 1) ai (λ_ _=>rfl)) ac)))))) rfl rfl rfl ybo ybc hbase (λa=>(aj (q01 2 sc.nd (al 3)))))
   (aj (aG (kS (ax iX rfl nb.isinstance cu (aa (al 2) (aa (dz (v:=.ref _) rfl yaB rfl) ac))) (oW (DA (ax iX rfl nb.isinstance cu (aa (al 2) (aa (dz (v:=.ref _) rfl yas rfl) ac)))))))))),?_⟩
  symm;refine h1 _ _ ?_;grind;have J:dY (ce p) 0=some (V.str (tx p.1)):=aM (j:=0) rfl;have I:dY (ce p) 1=some (V.int (p.2.1:Int)):=aM (j:=1) rfl;have G:dY (ce p) 2=some (V.int (p.2.2.1:Int)):=aM (j:=2) rfl;have D:dY (ce p) 3=some (V.int p.2.2.2):=aM (j:=3) rfl;refine⟨_,aV.of b,_,J,_,aV.of b,_,I,_,aV.of b,_,G,_,aV.of b,_,D,g,B,r,n,C,x,m,p,rfl,gr,ok,.inl ⟨y,λh=>q0N h ⋯,λ_ l u=>⟨CM,rfl,_,_,ya3,und,λa c=>h1 _ _ ?_⟩⟩⟩;clear h1;have k:aC l a (xo a (.ref CM) none) a=some (xo a (.ref CM) none):=ad;have q:=λL s=>q L ((u.trans (ae (o:=xo a (.ref CM) none) c)).trans s);generalize aC l a (xo a (.ref CM) none)=H2 at k q ⊢;have e:IJ H2 a CM:=.inl k;ext;refine .inr (.inl ⟨a,CM,_,true,rfl,rfl,e,xt,k1,true,rfl,?_⟩);rw[q07 rfl];exact .inr (.inl ⟨a,CM,_,false,rfl,rfl,e,xt,k2,false,rfl,q _ (aE.refl _)⟩)
theorem yd{rs rs':Yaa}(h:rs.Perm rs'):∀(f:Nat) (p:TR),cnt rs f p=cnt rs' f p
 |0,_=>rfl
 |f+1,p=>by
  have e:cnt rs f=cnt rs' f:=funext (yd h f);unfold cnt;rw[e]
  split
  ·rfl
  ·exact((h.filter _).map _).sum_nat
def jC(n s:Nu):Nat×RV:=(0,⟨n,1,n,n,s,0⟩)
def jB(n o s:Nu)(c:Int):Nat×RV:=(1,⟨n,c,o,o,s,0⟩)
def jT(n o s:Nu):Nat×RV:=(3,⟨n,1,o,o,s,0⟩)
def jR(n0 n1 n2 n3 s:Nu)(b:Bool):Yaa:=List.replicate 10 (jC n0 s)++List.replicate 3 (jB n1 n0 s 2)++[jC n2 s,jB n3 n2 s 1]++if b=true then[jT n1 n3 s] else[]
theorem IS{n0 n1 n2 n3:Nu}{c:Nat}{sg:Nu}{b:Bool}(hn:∀x∈[n0,n1,n2,n3],dF x=true)(hs:i9 [c]=true)(hc:c∈sg):∀r∈jR n0 n1 n2 n3 [c] b,mh [n0,n1,n2,n3] sg r:=by
 have a:∀(k:Nat) (n o:Nu) (y:Int),k<4->n∈[n0,n1,n2,n3]->o∈[n0,n1,n2,n3]->1<=y->y<=9->mh [n0,n1,n2,n3] sg (k,⟨n,y,o,o,[c],0⟩):=λk n o y j h1 h2 l e=>by
  have g:RV.good ⟨n,y,o,o,[c],0⟩:=⟨hn _ h1,l,e,hn _ h2,hn _ h2,hs,Int.le_refl _,(show(0:Int)<=7 by decide)⟩;exact⟨⟨j,g,g.small⟩,h1,h2,h2,c,hc,rfl⟩
 intro r hr;unfold jR at hr;rcases MK.mp hr with hr | hr
 ·rcases MK.mp hr with hr | hr
  ·rcases MK.mp hr with hr | hr
   ·rw[List.eq_of_mem_replicate hr];exact a 0 n0 n0 1 nofun (by simp) (by simp) nofun nofun
   ·rw[List.eq_of_mem_replicate hr];exact a 1 n1 n0 2 nofun (by simp) (by simp) nofun nofun
  ·rcases MM.mp hr with rfl | hr
   ·exact a 0 n2 n2 1 nofun (by simp) (by simp) nofun nofun
   ·rw[Mz.mp hr];exact a 1 n3 n2 1 nofun (by simp) (by simp) nofun nofun
 ·cases b
  ·cases hr
  ·rw[Mz.mp hr];exact a 3 n1 n3 1 nofun (by simp) (by simp) nofun nofun
theorem Eh{n0 n1 n2 n3:Nu}(hd:[n0,n1,n2,n3].Nodup){rs:Yaa}(gc:dw rs)(hp:rs.Perm (jR n0 n1 n2 n3 s b)):CN rs (n1,1,2,4)=if b=true then 301 else 300:=by
 have R:dw (jR n0 n1 n2 n3 s b):=λq M=>gc q (hp.mem_iff.mpr M);rw[show CN rs (n1,1,2,4)=CN (jR n0 n1 n2 n3 s b) (n1,1,2,4) from yd hp 17 _];simp only[q0X,MM,List.not_mem_nil,or_false,not_or]at hd;obtain⟨⟨x,w,v⟩,⟨u,r⟩,p,_⟩:=hd;have m:=Ne.symm x;have l:=Ne.symm w;have j:=Ne.symm v;have g:=Ne.symm u;have e:=Ne.symm r;have a:=Ne.symm p;have y:∀(n:Nu) (c:Nat) (k:Int),1<=c->c<=6->fw 1 c<=k->k<=16->CN (jR n0 n1 n2 n3 s b) (n,1,c,k)=((cB n (jR n0 n1 n2 n3 s b)).map λq=>((bT q 1 c k).map λps=>aS (CN (jR n0 n1 n2 n3 s b)) ps).sum).sum:=λn c k h1 h2 h3 O=>by
  rw[AW R O,q06 (by simp only;omega)]
 have C:∀n,bT (jC n s) 1 1 1=[[]]:=λn=>rfl;have L:∀n o,bT (jB n o s 2) 1 2 4=[[(o,1,1,1),(o,1,1,1)]]:=λn o=>rfl;have B:∀n o,bT (jB n o s 1) 1 2 3=[[(o,1,1,1),(o,1,1,1)]]:=λn o=>rfl;have pt:∀n o,bT (jT n o s) 1 2 4=[[(o,1,2,3)]]:=λn o=>rfl;have J:cB n0 (jR n0 n1 n2 n3 s b)=List.replicate 10 (jC n0 s):=by
  cases b<;>simp[cB,jR,jC,jB,jT,List.filter_cons,List.replicate,x,w,v,u,r,p,m,l,j,g,e,a]
 have I:cB n1 (jR n0 n1 n2 n3 s b)=List.replicate 3 (jB n1 n0 s 2)++if b=true then[jT n1 n3 s] else[]:=by
  cases b<;>simp[cB,jR,jC,jB,jT,List.filter_cons,List.replicate,x,w,v,u,r,p,m,l,j,g,e,a]
 have G:cB n2 (jR n0 n1 n2 n3 s b)=[jC n2 s]:=by
  cases b<;>simp[cB,jR,jC,jB,jT,List.filter_cons,List.replicate,x,w,v,u,r,p,m,l,j,g,e,a]
 have D:cB n3 (jR n0 n1 n2 n3 s b)=[jB n3 n2 s 1]:=by
  cases b<;>simp[cB,jR,jC,jB,jT,List.filter_cons,List.replicate,x,w,v,u,r,p,m,l,j,g,e,a]
 have U:CN (jR n0 n1 n2 n3 s b) (n0,1,1,1)=10:=by
  rw[y _ _ _ nofun nofun nofun nofun];simp only[J];simp[List.replicate,C,aS]
 have T:CN (jR n0 n1 n2 n3 s b) (n2,1,1,1)=1:=by
  rw[y _ _ _ nofun nofun nofun nofun];simp only[G];simp[C,aS]
 have S:CN (jR n0 n1 n2 n3 s b) (n3,1,2,3)=1:=by
  rw[y _ _ _ nofun nofun nofun nofun];simp only[D];simp[B,aS,T]
 rw[y _ _ _ nofun nofun nofun nofun];simp only[I];cases b<;>simp[List.replicate,L,pt,aS,U,S]
theorem iN{left:Int}(h6:left<=6):∀(szs:List ((Nat×Nat)×(Nat×Nat))),(∀z∈szs,vK r c z)->(bc o1 o2 szs left).length<=szs.length*5
 | [],_=>MU _
 |z::szs,h=>by
  have ih:=iN (o1:=o1) (o2:=o2) h6 szs λz' hz'=>h z' (MN _ hz');have f1:=bR (h z q0B).a (h z q0B).b;have f2:=bR (h z q0B).d (h z q0B).e;unfold bc at ih ⊢;rw[List.flatMap_cons,MT,MI,My];unfold ja at ih ⊢;rw[My,q0G];omega
theorem Io(hg:dw rs)(h16:rs.length<=16){p:TR}(hr:p.2.1<=6)(hc:p.2.2.1<=6)(hk:p.2.2.2<=7):CN rs p<2 ^ 64:=by
 have:=ve (B:=9) (L:=32) (kx:=7) hg (λq b r c k e r6 j c6 hk=>by
  have g:=(hg q b).1;have h1:=(hg q b).2.1;obtain⟨t,v⟩:=q;have:t=0\/t=1\/t=2\/t=3:=by simp at g;omega
  simp only at h1;rcases this with rfl | rfl | rfl | rfl
  ·show(if r=1/\c=1/\k=v.c then[[]] else[]).length<=32
   split<;>simp
  ·refine M5 (iN (by show k-v.c<=6;omega) _ λz a=>iV e a) ?_
   rw[gX];omega
  ·refine M5 (iN (by show k-v.c<=6;omega) _ λz a=>iR j a) ?_
   rw[gJ];omega
  ·show([[_]]:List (List TR)).length<=32
   simp) (M5 (Nat.mul_le_mul_right 32 h16) nofun) 17 p hr hc hk
 exact Nc this (Nat.pow_lt_pow_right nofun ⋯)
theorem FX{xs:List V}{k:Nat}(h:k<=xs.length):iY xs none (some (k:Int))=xs.take k:=by
 unfold iY;rw[HT.sIx_nat,show HT.sIx xs.length 0 none=0 from rfl,Np,Nat.sub_zero,Nn h]
theorem BT{xs:List V}{k:Nat}(h:k<=xs.length):iY xs (some (k:Int)) none=xs.drop k:=by
 unfold iY;rw[HT.sIx_nat,show HT.sIx xs.length xs.length none=xs.length from rfl,Nn h,q0E (by rw[Nb];exact MU _)]
theorem HN{c:Nat}(h:dI r=true)(hc:c∈r):dI [c]=true:=by
 have h1:=wE h hc;have e:(met (dy (tx [c]))).length=1:=rfl;unfold i9 at h1;unfold dI;rw[e];simp at h1 ⊢;exact h1
def on(H:Hp)(xs:List V)(rs:Yaa):Prop:=∃ts:List Addr,xs=ts.map V.ref/\ts.length=rs.length/\∀(i:Nat) t r,ts[i]?=some t->rs[i]?=some r->H t=some (.tup (fu r))
theorem on.up(h:on H xs rs)(s:aE H H'):on H' xs rs:=by
 obtain⟨a,e,b,h⟩:=h;exact⟨a,e,b,λi t r g c=>s _ _ (h i t r g c)⟩
theorem on.len(h:on H xs rs):xs.length=rs.length:=by
 obtain⟨ts,rfl,a,_⟩:=h;rw[My,a]
theorem on.nil:on H [] []:=⟨[],rfl,rfl,λi t r e=>by simp at e⟩
theorem on.app{qs:Yaa}(h1:on H xs rs)(h2:on H ys qs):on H (xs++ys) (rs++qs):=by
 obtain⟨c,rfl,g,h1⟩:=h1;obtain⟨e,rfl,hl2,h2⟩:=h2;refine⟨c++e,by rw[MJ],by rw[MT,MT];omega,λi t r b a=>?_⟩
 by_cases j:i<c.length
 ·rw[MS j]at b
  rw[MS ⋯]at a;exact h1 i t r b a
 ·rw[MR ⋯]at b
  rw[MR ⋯,<- g]at a;exact h2 _ t r b a
theorem on.one{H:Hp}(h:H a=some (.tup (fu r))):on H [.ref a] [r]:=⟨[a],rfl,rfl,λi t q e1 e2=>by
 match i with
 |0=>cases e1;cases e2;exact h
 |i+1=>simp at e1⟩
theorem on.take(h:on H xs rs)(n:Nat):on H (xs.take n) (rs.take n):=by
 obtain⟨ts,rfl,hl,h1⟩:=h;refine⟨ts.take n,by rw[List.map_take],by rw[Na,Na,hl],λi t r e1 e2=>?_⟩;rw[List.getElem?_take]at e1 e2
 split at e1
 ·rename_i hi
  rw[q07 hi]at e2;exact h1 i t r e1 e2
 ·cases e1
theorem on.drop(h:on H xs rs)(n:Nat):on H (xs.drop n) (rs.drop n):=by
 obtain⟨c,rfl,e,h1⟩:=h;refine⟨c.drop n,by rw[List.map_drop],by rw[Nb,Nb,e],λi t r b a=>?_⟩;rw[List.getElem?_drop]at b a;exact h1 _ t r b a
abbrev rA:Stmt:=h_ 76
inductive uc(K:W.Frag)(vs:List V)(H:Hp)(Q:VK)(_E:XK):Prop
 |mk (a:Addr) (ns:List Int) (b:Bool) (_:vs=[.ref a,.bl b]) (_:aT K H a (ns.map V.int)) (_:∀H',Q (.bl true) H')
theorem Cv:az ["_law_script","_law_more","_law_names_here","_law_sign","_law_rules","_law_turn","_law_grammar_here","_law_shape","_law_found"] ["_law_script","_law_more"] (am rA):=by walk_at "c"
theorem BC{f yaa CM:Addr}(F:cE K "_law_just" "_law_just" rA f fd)(nb:NB mg)(zka:↑cW 1 "_law_cell" ["_law_script","_law_k"] (ld K))(zZa:↑cW 1 "_law_signs" ["_law_cell_here","_law_most"] mE)(zab:↑cW 1 "_law_names" ["_law_cell_here"] m4)
  (zOa:↑cW 7 "_law_grammar" ["_law_signs_here","_law_start","_law_rules"] (jq R CG)) (yaI:cW P w K mg base (bI P w) 73 "count_trees" ["grammar","name","rows","columns","cost"] (gK R CG yaa)) (yam:cW P w K mg base (bI P w) 108 "trees_of" ["grammar","name","rows","columns","cost"] (ia R CG yaa CM))
  (zGa:↑cW 109 "_law_too_many" ["_law_grammar_here","_law_shape"] (iB R CG)) (zHb:↑cW 36 "_law_row" ["_law_rules","_law_found","_law_shape"] qP):↑aY 110 f fd ["_law_script","_law_more"] (uc K):=by
 have sc:=Cv;walk_at "f"
 ·obtain⟨a,ns,b,rfl,ha,q⟩:=h
  have hu:=hr.units;refine⟨_,(af (aB (i:=2) sc.nd rfl (Or.inr rfl) (aF zab (hr.mono nofun) rfl aR (aa (aF zka (hr.mono nofun) rfl aR (aa (al 0) (aI ac))) ac)))
   (af (aB (i:=3) sc.nd rfl (Or.inr rfl) (cJ zd (aF zZa (hr.mono nofun) rfl aR (aa (aF zka (hr.mono nofun) rfl aR (aa (al 0) (aI ac))) (aI ac))) eC (cP ai)))
   (af (q01 4 sc.nd (aA oM (b7 ["_law_k"] [2,3] rfl (bB.of (by kernel_rfl)) (by kernel_rfl) (dl rfl nb.range (aI ac))
    (λ_ _ _ _=>(aD (i:=0) (by show(["_law_k","_law_names_here","_law_sign"]:List Str).Nodup;decide +kernel) rfl (Or.inl rfl))) (λ_ _ _ _=>bK) (λ_ _ _ _=>(aQ (aa (au (nP (K:=K) rfl) (al 1) ai (λ_ _=>rfl)) (aI (aI (aa (al 2) (bJ ac)))))))) (b7 ["_law_k"] [2] rfl (bB.of (by kernel_rfl)) (by kernel_rfl) (dl rfl nb.range (aI ac))
    (λ_ _ _ _=>(aD (i:=0) (by show(["_law_k","_law_names_here"]:List Str).Nodup;decide +kernel) rfl (Or.inl rfl))) (λ_ _ _ _=>bK) (λ_ _ _ _=>(aQ (aa (au (nP (K:=K) rfl) (al 1) ai (λ_ _=>rfl)) (aI (aI (aa (au (nP (K:=K) rfl) (al 1) ai (λ_ _=>rfl)) (aa (au (nP (K:=K) rfl) (al 1) ai (λ_ _=>rfl)) ac))))))))))
   (af (q01 4 sc.nd (aA oM (al 4) (bz (aa (aQ (aa (au aO (al 2) ai (λ_ _=>rfl)) (aI (aI (aa (al 3) (bJ ac)))))) (aa (aQ (aa (au aO (al 2) ai (λ_ _=>rfl)) (aI (aI (aa (au aO (al 2) ai (λ_ _=>rfl)) (aa (au aO (al 2) ai (λ_ _=>rfl)) ac)))))) ac)))))
   (af (bp (gi (al 1) λ_=>rfl)
   (aj (bF (q03 (al 4) (aa (aQ (aa (au aO (al 2) ai (λ_ _=>rfl)) (aI (aI (aa (au aO (al 2) ai (λ_ _=>rfl)) (aI ac)))))) ac))))
   aN)
   (af (q01 5 sc.nd (aA (br.m1 bO) (aF zka (hr.mono nofun) rfl aR (aa (al 0) (aI ac))) (ax aX rfl nb.len aW (aa (al 4) ac))))
   (af (q01 4 sc.nd (aA oM (cJ AR (al 4) (cP (al 5)) eC) (cJ AR (al 4) eC (cP (al 5)))))
   (af (q01 6 sc.nd (aF zOa (hr.mono nofun) rfl aR (aa (al 3) (aa (au aO (al 2) ai (λ_ _=>rfl)) (aa (al 4) ac)))))
   (af (q01 7 sc.nd (aQ (aa (au aO (al 2) ai (λ_ _=>rfl)) (aI (aI (aI ac))))))
   (af (bp (gi (al 1) λ_=>rfl)
   (aj (aG (kS (aF zGa (hr.mono nofun) rfl aR (aa (al 6) (aa (al 7) ac))) (oW (gw c7 (aF (CX:=bI P w) yaI (hr.mono nofun) rfl bj (aa (al 6) (aa (au aO (al 2) ai (λ_ _=>rfl)) (aI (aI (aI ac)))))) ai (aL _))))))
   aN)
   (af (q01 8 sc.nd (aF (CX:=bI P w) yam (hr.mono nofun) rfl bj (aa (al 6) (aa (au aO (al 2) ai (λ_ _=>rfl)) (aI (aI (aI ac)))))))
   (aj (aG (kS (ax b_ rfl nb.isinstance cu (aa (al 8) (aa (n_ (v:=.ty "list") rfl nb.list gE rfl) ac))) (kS (gw c7 (ax aX rfl nb.len aW (aa (al 8) ac)) ai (aL _)) (oW (aF zHb (hr.mono nofun) rfl aR (aa (al 4) (aa (al 8) (aa (al 7) ac)))))))))))))))))))),?_⟩
  symm;refine⟨a,ns,1,rfl,ha,⋯,λc1=>⟨c1,rfl,λlb p H1 hb0 hb i3 j0 d5 s1=>h1 _ _ ?_⟩⟩;clear h1;obtain⟨B,y,D,I,rfl⟩:∃B y D I,p=[B,y,D,I]:=by
   match p,i3 with
   | [B,y,D,I],_=>exact⟨_,_,_,_,rfl⟩
  symm;refine⟨a,ns,0,rfl,s1.seq ha,⋯,λc0=>⟨c0,rfl,λsg H2 d4 s2=>?_⟩⟩;have h5:=jG d4;refine⟨_,rfl,by rw[ay];exact ao ⋯,h1 _ _ ?_⟩;clear h1;obtain⟨x,f3,rfl⟩:∃c r,sg=c::r:=by
   match sg,h5.1 with
   |c::r,_=>exact⟨c,r,rfl⟩
  have g7:x∈x::f3:=q0B;have h8:=HN d4 g7;have h7:=wE d4 g7;rw[show Txt.slice (tx (x::f3)) none (some 1)=tx [x] from xP (n:=1) (by simp)];have h4:=s1.trans s2;have M:=s2 _ _ hb;symm;have a0:dY (aJ [B,y,D,I]) 0=some (V.str (tx B)):=aM (j:=0) rfl;have a1:dY (aJ [B,y,D,I]) 1=some (V.str (tx y)):=aM (j:=1) rfl;have a2:dY (aJ [B,y,D,I]) 2=some (V.str (tx D)):=aM (j:=2) rfl;have a3:dY (aJ [B,y,D,I]) 3=some (V.str (tx I)):=aM (j:=3) rfl;have more:∀{H0 O:Hp} {C:List V} {i:Nat} {r:Nat×RV} {tt:Addr},on O C (List.replicate i r)->O tt=none->on (aC O tt (.tup (fu r))) (C++[.ref tt]) (List.replicate (i+1) r):=λh ht=>by
   rw[List.replicate_succ'];exact(h.up (ae ht)).app (.one ad)
  refine⟨nofun,?_⟩;refine dE (lo:=0) (n:=10) (λi C σ O=>aE H2 O/\on O C (List.replicate i (jC B [x]))/\i<=10/\∃z,σ=[z,some (V.ref lb),some (V.str (tx [x]))]) ⟨aE.refl _,on.nil,MV _,_,rfl⟩ (λi C σ O h=>by rw[h.2.1.len,List.length_replicate];exact bf (by have:=h.2.2.1;omega)) (λi C σ O h=>h.2.2.1) ?_ ?_
  ·rintro i C σ O hi ⟨sm,hw,_,z,rfl⟩
   ext;exact⟨_,aT.of (sm _ _ M),_,a0,ao nofun,λtt a7=>⟨sm.trans (ae a7),more (H0:=H) hw a7,hi⟩⟩
  rintro u σA H3 ⟨s3,U,_,_⟩ l hl;have S:=s3.trans (ae (o:=.lst u) hl);have el:aC H3 l (.lst u) l=some (.lst u):=ad;have U:=U.up (ae (o:=.lst u) hl);generalize aC H3 l (.lst u)=H4 at S el U ⊢;refine⟨nofun,?_⟩;refine dE (lo:=0) (n:=3) (λi C σ O=>aE H4 O/\on O C (List.replicate i (jB y B [x] 2))/\i<=3/\∃z,σ=[z,some (V.ref lb)]) ⟨aE.refl _,on.nil,MV _,_,rfl⟩ (λi C σ O h=>by rw[h.2.1.len,List.length_replicate];exact bf (by have:=h.2.2.1;omega)) (λi C σ O h=>h.2.2.1) ?_ ?_
  ·rintro i C σ O hi ⟨sm,hw,_,z,rfl⟩
   ext;exact⟨_,aT.of ((S.trans sm) _ _ M),_,a1,_,aT.of ((S.trans sm) _ _ M),_,a0,_,aT.of ((S.trans sm) _ _ M),_,a0,ao nofun,λtt a7=>⟨sm.trans (ae a7),more (H0:=H) hw a7,hi⟩⟩
  rintro m σB H5 ⟨s5,T,_,_⟩ l2 d8;have a4:=s5.trans (ae (o:=.lst m) d8);have e0:aC H5 l2 (.lst m) l2=some (.lst m):=ad;have T:=T.up (ae (o:=.lst m) d8);generalize aC H5 l2 (.lst m)=H6 at a4 e0 T ⊢;have Y:=(U.up a4).app T;have j3:=U.len;have j2:=T.len;rw[List.length_replicate]at j3 j2;refine⟨_,a4 _ _ el,_,e0,ao ⋯,λl3 d7=>h1 _ _ ?_⟩;clear h1;have s6:=(S.trans a4).trans (ae (o:=.lst (u++m)) d7);have b4:aC H6 l3 (.lst (u++m)) l3=some (.lst (u++m)):=ad;have Y:=Y.up (ae (o:=.lst (u++m)) d7);generalize aC H6 l3 (.lst (u++m))=H7 at s6 b4 Y ⊢;have G:=s6 _ _ M;clear s3 S s5 a4 el e0 U T hl d8 d7;have a8:(u++m).length=13:=by rw[MT];omega
  generalize u++m=accC at b4 Y a8;symm;refine⟨_,aT.of G,_,a2,ao nofun,λp5 g3=>?_⟩;generalize z0:aC H7 p5 _=H8;obtain⟨s8,e8⟩:=xb g3 z0;refine⟨_,aT.of (s8 _ _ G),_,a3,_,aT.of (s8 _ _ G),_,a2,_,aT.of (s8 _ _ G),_,a2,ao nofun,λp6 g2=>?_⟩;generalize z1:aC H8 p6 _=H9;obtain⟨s9,e9⟩:=xb g2 z1;refine⟨ao nofun,λp7 g1=>?_⟩;generalize z2:aC H9 p7 _=H10;obtain⟨b1,h3⟩:=xb g1 z2;have J:=(s8.trans s9).trans b1;refine⟨_,J _ _ b4,_,h3,ao (by simp only[MI,List.length_nil];omega),λlr d6=>h1 _ _ ?_⟩;clear h1;have hw:on H10 (accC++[V.ref p5,V.ref p6]) (List.replicate 10 (jC B [x])++List.replicate 3 (jB y B [x] 2)++[jC D [x],jB I D [x] 1]):=
   ((Y.up J).app (on.app (.one (r:=jC D [x]) ((s9.trans b1) _ _ e8)) (.one (r:=jB I D [x] 1) (b1 _ _ e9))))
  have s0:=(h4.trans s6).trans J;have e5:=J _ _ G;clear b1 h3 s9 e9 s8 e8 z0 z1 z2 J s6 Y b4 g3 g2 g1 G;have j1:(accC++[V.ref p5,V.ref p6]).length=15:=by rw[MT,a8];rfl
  generalize accC++[V.ref p5,V.ref p6]=accD at hw j1 ⊢;clear a8;generalize z3:aC H10 lr _=H11;obtain⟨b0,c4⟩:=xb d6 z3;refine ak λN1 h1=>?_;have c9:∀(Z:Hp) (g:List V),aE H10 Z->Z lr=some (.lst g)->on Z g (jR B y D I [x] b)->N1 [some (V.ref a),some (V.bl b),some (V.ref lb),some (V.str (tx [x])),some (V.ref lr),none,none,none,none] Z:=by
   intro Z g f6 e3 a6;refine h1 _ _ ?_;clear h1;have g5:=a6.len;have g6:g.length=if b=true then 16 else 15:=by rw[g5];cases b<;>rfl
   have j9:g.length<=16/\0<g.length:=by rw[g6];cases b<;>decide
   symm;refine⟨a,ns,3,rfl,(s0.trans f6).seq ha,⋯,λc3=>⟨_,aT.of e3,_,rfl,⋯,h1 _ _ ?_⟩⟩;clear h1;obtain⟨k,hk⟩:∃k:Nat,c3%(g.length:Int)=(k:Int):=⟨_,(Nm (Nk _ ⋯)).symm⟩;have hk2:k<g.length:=by have:=Nl c3 (b:=(g.length:Int)) ⋯;omega
   rw[hk];symm;refine⟨_,aT.of e3,λq1 i2=>?_⟩;generalize z4:aC Z q1 _=H13;obtain⟨d2,e2⟩:=xb i2 z4;refine⟨_,aT.of (d2 _ _ e3),λq2 i1=>?_⟩;generalize z5:aC H13 q2 _=H14;obtain⟨d1,e1⟩:=xb i1 z5;have c1:iY g (some (k:Int)) none=g.drop k:=BT ⋯;have c2:iY g none (some (k:Int))=g.take k:=FX ⋯;rw[c1]at e2;rw[c2]at e1;refine⟨_,d1 _ _ e2,_,e1,ao (by rw[Nb,Na];omega),λq3 i0=>h1 _ _ ?_⟩;clear h1;generalize z6:aC H14 q3 _=H15;obtain⟨f5,h2⟩:=xb i0 z6;have f1:=(d2.trans d1).trans f5;obtain⟨ts,g8,f8,d3⟩:=((a6.drop k).app (a6.take k)).up f1;rw[g8]at h2;obtain⟨L,f9⟩:∃L,L=(jR B y D I [x] b).drop k++(jR B y D I [x] b).take k:=⟨_,rfl⟩;rw[<- f9]at f8 d3;have hR:dX H15 q3 ts L:=⟨h2,f8,d3⟩;have a9:L.Perm (jR B y D I [x] b):=by
    rw[f9];exact List.perm_append_comm.trans (by rw[List.take_append_drop])
   have g0:∀r∈L,mh [B,y,D,I] [x] r:=λr hr=>IS d5 h7 (Mz.mpr rfl) r (a9.mem_iff.mp hr);have hg:∀r∈L,cU r:=λr hr=>(g0 r hr).good;have gc:=gY hg;have b3:=Eh j0 gc a9;have h9:L.length<=16:=by rw[a9.length_eq,<- g5];exact j9.1
   have mk:fZ [x] B L=none:=uM h8 q0B d5 (by simp) ⋯ g0;have e6:=(f6.trans f1) _ _ e5;have hn0:=iU (d5 B q0B);clear g8 d3 e2 e1 d2 d1 f5 z4 z5 z6 c1 c2;symm;refine⟨_,aT.of e6,_,a0,q3,[x],B,ts,L,rfl,hR,hg,⋯,by simp,⋯,mk,λgr dg ga k1 hG f4=>h1 _ _ ?_⟩;clear h1;have f2:=f4 _ _ e6;symm;refine⟨_,aT.of f2,_,a1,ao nofun,λsh h6=>h1 _ _ ?_⟩;clear h1;have er:[V.str (tx y),V.int 1,V.int 2,V.int 4]=ce (y,1,2,4):=rfl;rw[er];generalize z7:aC k1 sh _=H17;obtain⟨d0,h0⟩:=xb h6 z7;have hG:=hG.up d0;have f0:=d0 _ _ f2;have hR:=(hR.up f4).up d0;have j4:jB y B [x] 2∈L:=a9.mem_iff.mpr (by unfold jR;simp);have c6:sM B L 2 (y,1,2,4):=⟨(ol _ _ _).mpr (.inr ⟨(tx y,(bh 1 (jB y B [x] 2).2).map tx),by unfold GO;exact List.mem_map_of_mem (f:=λr:Nat×RV=>(tx r.2.n,(bh r.1 r.2).map tx)) j4,.inl rfl⟩),MU _,(show 1<=2 by decide),(show 1<=2 by decide),MU _,(show(-8:Int)<=4 by decide),(show(4:Int)<=16 by decide)⟩;have e4:qV B L 2:=⟨gc,λq hq=>(hg q hq).good.t0,λp a b c=>Io gc h9 ⋯ ⋯ c,nofun,⋯,by
    have:=mk;unfold fZ at this
    split at this
    ·cases this
    ·split at this
     ·cases this
     ·omega⟩
   symm;cases b with
   |true=>
    rw[q07 rfl];refine⟨gr,dg,sh,[x],B,ga,L,2,(y,1,2,4),rfl,h0,hG,e4,c6,by rw[b3];decide,λk0 a5=>⟨true,rfl,?_⟩⟩;rw[q07 rfl];refine⟨_,aT.of (a5 _ _ f0),_,a1,gr,dg,[x],B,ga,L,2,(y,1,2,4),rfl,hG.up a5,e4,.inl ⟨c6,λH19 s19=>⟨rfl,?_⟩⟩⟩;rw[b3];exact q _
   |false=>
    rw[q06 nofun];refine h1 _ _ ?_;grind;refine⟨_,aT.of f0,_,a1,gr,dg,[x],B,ga,L,2,(y,1,2,4),rfl,hG,e4,.inl ⟨c6,λ_ lf k0 hlf hT a5=>h1 _ _ ?_,λh=>q0N h (by rw[b3];decide)⟩⟩;clear h1;have ok:=c6.row nofun;have g4:(RT L (y,1,2,4)).length=300:=by rw[b6 gc ok,b3];rfl
    obtain⟨vs,hv,j8⟩:=id hT;have f7:=j8.length;rw[My,g4]at f7;ext;refine⟨_,je.lst hv,true,nw K _,?_⟩;rw[q07 rfl];refine⟨_,aT.of hv,?_⟩;rw[q07 (by rw[f7];rfl)];exact⟨q3,lf,sh,ts,L,(y,1,2,4),rfl,hR.up a5,⋯,hg,hT,⋯,a5 _ _ h0,ok,λO _=>q O⟩
  ext;cases b with
  |false=>
   rw[q06 nofun];refine c9 H11 _ b0 c4 ?_;rw[show jR B y D I [x] false=List.replicate 10 (jC B [x])++List.replicate 3 (jB y B [x] 2)++[jC D [x],jB I D [x] 1] from M8 _];exact hw.up b0
  |true=>
   rw[q07 rfl];have e7:=b0 _ _ e5;refine⟨.inl ⟨rfl,_,aT.of c4⟩,_,aT.of e7,_,a1,_,aT.of e7,_,a3,ao nofun,λp8 b2=>⟨_,ae b2 _ _ c4,bf ⋯,?_⟩⟩;have s8:=b0.trans (ae (o:=.tup [V.str (tx y),V.int 1,V.int 3,V.str (tx I),V.int 0]) b2);have n8:p8≠lr:=λe=>by rw[e,c4]at b2;cases b2
   refine c9 _ _ (dP s8 d6) ad ?_;exact(hw.up (dP s8 d6)).app (.one (r:=jT y I [x]) (by rw[aq n8];exact ad))
theorem AB:∀t:bu,Dt.dep t.d=t.dep
 | .n0 i=>rfl
 | .n1 i a=>by simp only[bu.d,Dt.dep,Dt.deps,bu.dep,AB a];omega
 | .n2 i a b=>by simp only[bu.d,Dt.dep,Dt.deps,bu.dep,AB a,AB b];omega
abbrev tT:Stmt:=h_ 77
inductive vi(K:W.Frag)(vs:List V)(H:Hp)(Q:VK)(_E:XK):Prop
 |mk (a:Addr) (ns:List Int) (_:vs=[.ref a]) (_:aT K H a (ns.map V.int)) (_:∀H',Q (.bl true) H')
theorem Ie:az ["_law_script","_law_drawn","_law_rules","_law_stock","_law_one","_law_shape","_law_grammar_here","_law_many","_law_found","_law_k"] ["_law_script"] (am tT):=by walk_at "c"
theorem HK{f yaa yae:Addr}(F:cE K "law" "law" tT f fd)(nb:NB mg)(zka:↑cW 1 "_law_cell" ["_law_script","_law_k"] (ld K))(zYd:↑cW 2 "_law_cells" ["_law_script","_law_begin","_law_most"] (rq K))(zRa:↑cW 1 "_law_whole" ["_law_x"] mD)(zZa:↑cW 1 "_law_signs" ["_law_cell_here","_law_most"] mE)(zab:↑cW 1 "_law_names" ["_law_cell_here"] m4)
  (zZd:↑cW 4 "_law_grown" ["_law_cells_here","_law_drawn"] qF) (zOa:↑cW 7 "_law_grammar" ["_law_signs_here","_law_start","_law_rules"] (jq R CG)) (yaI:cW P w K mg base (bI P w) 73 "count_trees" ["grammar","name","rows","columns","cost"] (gK R CG yaa)) (ybr:cW P w K mg base (bI P w) 90 "number_of" ["grammar","tree"] (nV R CG)) (yam:cW P w K mg base (bI P w) 108 "trees_of" ["grammar","name","rows","columns","cost"] (ia R CG yaa yae))
  (zGa:↑cW 109 "_law_too_many" ["_law_grammar_here","_law_shape"] (iB R CG)) (zHb:↑cW 36 "_law_row" ["_law_rules","_law_found","_law_shape"] qP) (zJe:↑cW 110 "_law_just" ["_law_script","_law_more"] (uc K)):↑aY 111 f fd ["_law_script"] (vi K):=by
 have sc:=Ie;walk_at "f"
 ·obtain⟨a,ns,rfl,ha,q⟩:=h
  have hu:=hr.units;have hu2:=hr.units210;refine⟨_,(af (bp (aH c7 (aA (br.m1 bO) (aA (br.m1 cg) (aF zka (hr.mono nofun) rfl aR (aa (al 0) (aI ac))) ai) ai) ai (aL _))
   (aj (aG (aF zJe (hr.mono nofun) rfl aR (aa (al 0) (aa (gw c7 (aA (br.m1 bO) (aA (br.m1 cg) (aF zka (hr.mono nofun) rfl aR (aa (al 0) (aI ac))) ai) ai) ai (aL _)) ac)))))
   aN)
   (af (q01 1 sc.nd (aQ (aa (aF zZa (hr.mono nofun) rfl aR (aa (aF zka (hr.mono nofun) rfl aR (aa (al 0) (aI ac))) (aI ac))) (aa (aF zab (hr.mono nofun) rfl aR (aa (aF zka (hr.mono nofun) rfl aR (aa (al 0) (aI ac))) ac)) (aI (aI (aI ac)))))))
   (af (Fr (aF zZd (hr.mono nofun) rfl aR (aa (aF zYd (hr.mono nofun) rfl aR (aa (al 0) (aI (aI ac)))) (aa (al 1) ac))) (gb (n:=2) rfl (aU (q02 2 sc.nd) (aU (q02 3 sc.nd) cY))))
   (af (q01 4 sc.nd (au aO (al 3) (aA (br.m1 bO) (aF zka (hr.mono nofun) rfl aR (aa (al 0) (aI ac))) (ax aX rfl nb.len aW (aa (al 3) ac))) (λ_ _=>rfl)))
   (af (q01 5 sc.nd (aQ (aa (au ar (al 4) ai (λ_ _=>rfl)) (aa (ax aX rfl nb.len aW (aa (au ar (al 4) ai (λ_ _=>rfl)) ac)) (aa (ax a_ rfl nb.len aW (aa (au aO (au ar (al 4) ai (λ_ _=>rfl)) ai (λ_ _=>rfl)) ac)) (aa (au ar (al 4) ai (λ_ _=>rfl)) ac))))))
   (af (q01 6 sc.nd (aF zOa (hr.mono nofun) rfl aR (aa (au ar (al 1) ai (λ_ _=>rfl)) (aa (au aO (au ar (al 1) ai (λ_ _=>rfl)) ai (λ_ _=>rfl)) (aa (al 2) ac)))))
   (af (q01 7 sc.nd (aF (CX:=bI P w) yaI (hr.mono nofun) rfl bj (aa (al 6) (aa (au ar (al 5) ai (λ_ _=>rfl)) (aa (au ar (al 5) ai (λ_ _=>rfl)) (aa (au ar (al 5) ai (λ_ _=>rfl)) (aa (au ar (al 5) ai (λ_ _=>rfl)) ac)))))))
   (af (bp (aH (br.m0 jP) (al 7) ai (aL _))
   (aj (aG (aF zGa (hr.mono nofun) rfl aR (aa (al 6) (aa (al 5) ac)))))
   aN)
   (af (q01 8 sc.nd (aF (CX:=bI P w) yam (hr.mono nofun) rfl bj (aa (al 6) (aa (au ar (al 5) ai (λ_ _=>rfl)) (aa (au ar (al 5) ai (λ_ _=>rfl)) (aa (au ar (al 5) ai (λ_ _=>rfl)) (aa (au ar (al 5) ai (λ_ _=>rfl)) ac)))))))
   (af (bp (PW.pt (fm (fq (gi (ax b_ rfl nb.isinstance cu (aa (al 8) (aa (n_ (v:=.ty "list") rfl nb.list gE rfl) ac))) λ_=>rfl)) (fm (aH nu (ax aX rfl nb.len aW (aa (al 8) ac)) (al 7) (aL _)) (fB (fq (gi (aF zHb (hr.mono nofun) rfl aR (aa (al 2) (aa (al 8) (aa (al 5) ac)))) λ_=>rfl))))))
   (aj (aG nK))
   aN)
   (af (q01 9 sc.nd (aF (CX:=bI P w) ybr (hr.mono nofun) rfl bj (aa (al 6) (aa (au ar (al 4) ai (λ_ _=>rfl)) ac))))
   (af (bp (PW.pt (fm (fq (gi (aF zRa (hr.mono nofun) rfl aR (aa (al 9) ac)) λ_=>rfl)) (fm (fq (qI (br.m0 mj) (br.m0 pC) ai (al 9) (al 7))) (fB (aH (E_ hu) (au aO (al 8) (al 9) (λ_ _=>rfl)) (au ar (al 4) ai (λ_ _=>rfl)) (aL _))))))
   (aj (aG nK))
   aN)
   (af (bF (q03 (al 8) (aa (aQ ac) ac)))
   (aj (aG (gw c7 (ax aX rfl nb.len aW (aa (aF (CX:=bI P w) yam (hr.mono nofun) rfl bj (aa (al 6) (aa (au ar (al 5) ai (λ_ _=>rfl)) (aa (au ar (al 5) ai (λ_ _=>rfl)) (aa (au ar (al 5) ai (λ_ _=>rfl)) (aa (au ar (al 5) ai (λ_ _=>rfl)) ac)))))) ac)) (al 7) (aL _))))))))))))))))),?_⟩
  refine ak λN1 h1=>?_;refine u5 λtb ub et eu=>?_;ext;refine⟨a,ns,2,rfl,ha,⋯,λc2=>⟨c2,rfl,?_⟩⟩;refine eF (λt1=>?_) (λt1=>?_)
  ·rw[et]
   ext;exact⟨a,ns,2,rfl,ha,⋯,λc=>⟨_,rfl,a,ns,_,rfl,ha,q⟩⟩
  rw[eu];ext;refine h1 _ _ ?_;clear h1 et eu tb ub t1;symm;refine⟨a,ns,0,rfl,ha,⋯,λc0=>⟨c0,rfl,λG H5 a9 s5=>⟨a,ns,1,rfl,s5.seq ha,⋯,λc1=>⟨c1,rfl,λlb p H6 h2 hb g4 hpd c3 s6=>⟨ao nofun,λtd e2=>h1 _ _ ?_⟩⟩⟩⟩⟩;clear h1;have s7:=ae (o:=.tup [V.str (tx G),V.ref lb,V.int 2,V.int 3,V.int 9]) e2;have a2:aC H6 td (.tup [V.str (tx G),V.ref lb,V.int 2,V.int 3,V.int 9]) td=some (.tup [V.str (tx G),V.ref lb,V.int 2,V.int 3,V.int 9]):=ad;have a1:=s7 _ _ hb;have Z:=(s5.trans s6).trans s7;generalize aC H6 td (.tup [V.str (tx G),V.ref lb,V.int 2,V.int 3,V.int 9])=H7 at Z a2 a1 ⊢;clear s7 s6 s5 hb h2 e2;symm;refine⟨a,ns,3,12,rfl,Z.seq ha,⋯,⋯,⋯,λlc cs H8 e6 e7 h6 cs12 s8=>⟨lc,td,lb,cs,p,G,2,3,9,rfl,e7,h6,⋯,s8 _ _ a2,s8 _ _ a1,g4,c3,a9,nofun,nofun,nofun,nofun,λtp lr ls ts u zs H9 e1 g hrl f7 hzl' s9=>⟨tp,rfl,_,aV.of e1,rfl,_,_,rfl,_,_,rfl,rfl,h1 _ _ ?_⟩⟩⟩;clear h1;have f0:u.length<=12:=by omega
  have f4:=(Z.trans s8).trans s9;have a6:=s9 _ _ (s8 _ _ a2);have h0:=s9 _ _ (s8 _ _ a1);clear s9 s8 Z e1 e6 e7 a2 a1;symm;have hzl:0<zs.length:=Nat.pos_of_ne_zero λe=>f7 (Nd.mp e);have hlm:(zs.map λz=>V.ref z.a).length=zs.length:=My _;refine⟨a,ns,2,rfl,f4.seq ha,⋯,λc4=>⟨_,aT.of g.st,_,rfl,⋯,_,aT.of g.st,?_⟩⟩;obtain⟨z,d6,a5⟩:∃z∈zs,dY (zs.map λz=>V.ref z.a) (c4%((zs.map λz=>V.ref z.a).length:Nat))=some (V.ref z.a):=by
   obtain⟨v,hv,e⟩:=zq (xs:=zs.map λz=>V.ref z.a) (Nk c4 (show((zs.map λz=>V.ref z.a).length:Int)≠0 by omega)) (Nl _ ⋯);obtain⟨z,hz,rfl⟩:=Nf.mp hv;exact⟨z,hz,e⟩
  have za:=g.at_ z d6;have zg:=g.good z d6;obtain⟨rr,cc,D⟩:=zg.sd;have l:∀r∈u,cU r:=λr hr=>(g.ro r hr).good;have U:fA z.x.p rr cc:=D.pic l;have f5:rr<=6:=U.r6;have h7:cc<=6:=U.c6;have zlow:((z.x.t.cnt:Nat):Int)<=z.x.c:=(D.low l).2;have zcnt:=z.x.t.cnt1;have zdep:=z.x.t.dep_cnt;have d2:z.x.c<=9:=zg.le;refine⟨_,a5,h1 _ _ ?_⟩;clear h1 a5;have g2:=g.ro;have gc:=gY l;have e4:p[0]?=some (p[0]'⋯):=Mv ⋯;have M:p[0]'⋯∈p:=MF _;generalize p[0]'⋯=st at e4 M;have h8:dY (aJ p) 0=some (V.str (tx st)):=(show dY _ ((0:Nat):Int)=_ from aM (by unfold aJ;rw[MA,e4];rfl));have hsl:=jG a9;have hn0:=iU (c3 _ M);have mk:fZ G st u=none:=uM a9 M c3 ⋯ ⋯ g2;have f6:tx z.x.nm∈(bt (tx st) u).map (·.1):=by
   obtain⟨nn,q0,ps,_,g3,b4,_⟩:=D.node l;have b4:q0.2.n=z.x.nm:=b4;rw[<- b4];exact(ol _ _ _).mpr (.inr ⟨(tx q0.2.n,(bh q0.1 q0.2).map tx),by unfold GO;exact List.mem_map_of_mem (f:=λr:Nat×RV=>(tx r.2.n,(bh r.1 r.2).map tx)) (MB g3),.inl rfl⟩)
  have c61:CN u (z.x.nm,rr,cc,z.x.c)<=2 ^ 61:=GT gc f0 f5 h7 d2;have T:qV st u 6:=⟨gc,λq hq=>(l q hq).good.t0,λp a b c=>Nc (GT gc f0 a b ⋯) nofun,nofun,⋯,by
   have:=mk;unfold fZ at this
   split at this
   ·cases this
   ·split at this
    ·cases this
    ·omega⟩
  have B:sM st u 6 (z.x.nm,rr,cc,z.x.c):=⟨f6,U.r0,U.r6,U.c0,U.c6,by show -8<=z.x.c;omega,by show z.x.c<=16;omega⟩;have ok:=B.row nofun;have C:=b6 gc ok;have e5:1<=CN u (z.x.nm,rr,cc,z.x.c):=by
   rw[<- C];exact List.length_pos_of_mem (D.mem l _ (MU _) (by show z.x.c<=16;omega))
  symm;obtain⟨zt,zv,zl,zn⟩:=za;obtain⟨g6,g8⟩:=dZ U.rc U.r0;refine⟨_,aV.of zt,_,rfl,_,aV.of zt,_,rfl,_,rfl,_,aT.of zl,_,aV.of zt,_,rfl,_,rfl,_,aT.of zl,_,(show dY _ ((0:Nat):Int)=_ from aM (bi g6)),_,rfl,by rw[ay];exact ao ⋯,_,aV.of zt,_,rfl,ao nofun,λsh g1=>h1 _ _ ?_⟩;clear h1;rw[aw,U.rc.1,ay,g8];obtain⟨m,c9⟩:∃m:TR,m=(z.x.nm,rr,cc,z.x.c):=⟨_,rfl⟩;have f1:[V.str (tx z.x.nm),V.int (rr:Int),V.int (cc:Int),V.int z.x.c]=ce m:=by rw[c9];rfl
  have p39:m.2.2.2<=9:=by rw[c9];exact d2
  rw[<- c9]at e5 C ok B D;rw[f1];generalize z0:aC H9 sh _=H10;obtain⟨L,h5⟩:=xb g1 z0;have b0:dY (ce m) 0=some (V.str (tx m.1)):=aM (j:=0) rfl;have b1:dY (ce m) 1=some (V.int (m.2.1:Int)):=aM (j:=1) rfl;have b2:dY (ce m) 2=some (V.int (m.2.2.1:Int)):=aM (j:=2) rfl;have b3:dY (ce m) 3=some (V.int m.2.2.2):=aM (j:=3) rfl;symm;refine⟨_,aV.of (L _ _ a6),_,rfl,_,aV.of (L _ _ a6),_,rfl,_,rfl,_,aT.of (L _ _ h0),_,h8,lr,G,st,ts,u,rfl,g.rows.up L,l,⋯,⋯,⋯,mk,λg0 d0 a0 H11 G0 d5=>h1 _ _ ?_⟩;clear h1;have S:=d5 _ _ h5;symm;refine⟨_,aV.of S,_,b0,_,aV.of S,_,b1,_,aV.of S,_,b2,_,aV.of S,_,b3,g0,d0,G,st,a0,u,6,m,rfl,G0,T,.inl ⟨B,λh9 a8=>h1 _ _ ?_⟩⟩;clear h1;have y:=a8 _ _ S;have G0:=G0.up a8;have d3:=(L.trans d5).trans a8;symm;refine eF (λt1=>?_) (λt1=>?_)
  ·exact⟨g0,d0,sh,G,st,a0,u,6,m,rfl,y,G0,T,B,⋯,λH' _=>q H'⟩
  refine h1 _ _ ?_;grind;refine⟨_,aV.of y,_,b0,_,aV.of y,_,b1,_,aV.of y,_,b2,_,aV.of y,_,b3,g0,d0,G,st,a0,u,6,m,rfl,G0,T,.inl ⟨B,λ_ lf H13 g5 hT Y=>h1 _ _ ?_,λh=>q0N h ⋯⟩⟩;clear h1;have a4:=d3.trans Y;obtain⟨vs,hv,e9⟩:=id hT;have f8:=e9.length;rw[My,C]at f8;symm;refine⟨_,je.lst hv,true,nw K _,?_⟩;rw[q06 nofun];refine⟨_,aT.of hv,?_⟩;rw[q06 ⋯];refine⟨lr,lf,sh,ts,u,m,rfl,g.rows.up a4,⋯,l,hT,⋯,Y _ _ y,ok,λH14 a7=>⟨true,rfl,?_⟩⟩;rw[q06 nofun];refine h1 _ _ ?_;clear h1;have J:=a4.trans a7;have i0:=G0.up (Y.trans a7);symm;refine⟨_,aV.of (J _ _ zt),_,rfl,g0,d0,G,st,a0,u,6,z.v,z.x.t,m,z.x.p,rfl,i0,T,l,zv.up (du.of J) _,D,B,λk f2 hk d4=>h1 _ _ ?_⟩;clear h1;have hk2:k<CN u m:=by have:=(Mw.mp hk).1;omega
  have I:=a7.trans d4;have a3:=J.trans d4;symm;refine⟨_,rfl,_,rfl,?_⟩;rw[q06 nofun,q07 ⋯,q06 ⋯];have d7:vs[k]?=some (vs[k]'⋯):=Mv ⋯;obtain⟨d,hd,g7⟩:=fH e9 d7;rw[MA,hk]at hd;cases hd;refine⟨_,aT.of (I _ _ hv),_,aM d7,_,aV.of (a3 _ _ zt),_,rfl,?_⟩;have e0:=AB z.x.t;have e8:=g7.up (du.of I) _;have d1:=zv.up (du.of a3) _;rw[z.x.t.d_eq]at e0 e8 d1;have e0:Dt.deps (.int z.x.t.i::z.x.t.ps.map bu.d)+1=z.x.t.dep:=e0;refine .inl ⟨_,⋯,.inr ⟨bg.rd _ e8,bg.rd _ d1⟩,_,rfl,?_⟩;rw[q06 nofun];refine h1 _ _ ?_;grind;refine⟨.inl ⟨rfl,_,aT.of (I _ _ hv)⟩,ao nofun,λpe e3=>⟨_,ae e3 _ _ (I _ _ hv),bf ⋯,h1 _ _ ?_⟩⟩;clear h1;have sL:aE h9 (aC (aC f2 pe (.tup [])) lf (.lst (vs++[V.ref pe]))):=dP ((Y.trans I).trans (ae e3)) g5;have O:=sL _ _ y;have f3:=G0.up sL;generalize aC (aC f2 pe (.tup [])) lf (.lst (vs++[V.ref pe]))=H16 at O f3 ⊢;ext;refine⟨_,aV.of O,_,b0,_,aV.of O,_,b1,_,aV.of O,_,b2,_,aV.of O,_,b3,g0,d0,G,st,a0,u,6,m,rfl,f3,T,.inl ⟨B,λ_ l2 H17 hl2 h4 s17=>?_,λh=>q0N h ⋯⟩⟩;obtain⟨us,f9,h3⟩:=h4;have d8:=h3.length;rw[My,C]at d8;refine⟨_,rfl,_,aT.of f9,?_⟩;rw[d8,q09 rfl];exact q _
end
theorem bdc{n:Nat}{P:List Value->Prop}(h:∀a us,us.length=n->P (a::us)):∀us:List Value,us.length=n+1->P us:=by
 intro us e;cases us with|nil=>cases e|cons a us=>exact h a us (Nat.succ.inj e)
theorem bd0{P:List Value->Prop}(h:P []):∀us:List Value,us.length=0->P us:=by
 intro us e;cases us with|nil=>exact h|cons a us=>cases e
theorem bd1{P:List Value->Prop}(h:∀a,P [a]):∀us:List Value,us.length=1->P us:=bdc λa=>bd0 (P:=λus=>P (a::us)) (h a)
theorem bd2{P:List Value->Prop}(h:∀a b,P [a,b]):∀us:List Value,us.length=2->P us:=bdc λa=>bd1 (P:=λus=>P (a::us)) (h a)
theorem bd3{P:List Value->Prop}(h:∀a b c,P [a,b,c]):∀us:List Value,us.length=3->P us:=bdc λa=>bd2 (P:=λus=>P (a::us)) (h a)
theorem bd4{P:List Value->Prop}(h:∀a b c d,P [a,b,c,d]):∀us:List Value,us.length=4->P us:=bdc λa=>bd3 (P:=λus=>P (a::us)) (h a)
theorem bd5{P:List Value->Prop}(h:∀a b c d e,P [a,b,c,d,e]):∀us:List Value,us.length=5->P us:=bdc λa=>bd4 (P:=λus=>P (a::us)) (h a)
theorem bd6{P:List Value->Prop}(h:∀a b c d e f,P [a,b,c,d,e,f]):∀us:List Value,us.length=6->P us:=bdc λa=>bd5 (P:=λus=>P (a::us)) (h a)
def FK(K:W.Frag)(x:Str)(st:Stmt)(f:Addr):Prop:=W.nsIn K mainGlobals x=some (some (.ref f))/\∃oc od osl kV doc pm an cdv ct,K.lookup f=some ⟨oc,od,.func (W.fnOf x x (bd st) (ba st) (am st) .none kV doc pm an cdv ct),osl⟩/\W.codeIn K cdv x=true/\W.keepIn K (.ref f)=true
theorem fk_mk{K:W.Frag}{st:Stmt}{f:Addr}{oc:Value}{od an:NG}{osl:Array (Option Value)}{kV doc pm cdv ct:Value}(a:W.nsIn K mainGlobals x=some (some (.ref f)))(l:K.lookup f=some ⟨oc,od,.func (W.fnOf x x (bd st) (ba st) (am st) .none kV doc pm an cdv ct),osl⟩)(c:W.codeIn K cdv x=true)(k:W.keepIn K (.ref f)=true):FK K x st f:=⟨a,oc,od,osl,kV,doc,pm,an,cdv,ct,l,c,k⟩
theorem FK.cal{K:W.Frag}{st:Stmt}{f:Addr}{mg:Nz}{CX:kc}{ps:ND}{sp:Sp}(P:NC)(w:NF)(base:Heap)(q:FK K x st f)(X:K.In h)(G:h.Ns mainGlobals mg)
  (ok:∀fd,cE K x x st f fd->mg x=some (.ref f)->W.keepIn K (.ref f)=true->bU K fd ps []->aY P w K mg base CX k f fd ps sp)
  (hb:∀(kV doc pm:Value) (an:NG) (cdv ct:Value) (us:Nw),us.length=ps.length->bindArgs (W.fnOf x x (bd st) (ba st) (am st) .none kV doc pm an cdv ct) ⟨us,[]⟩=pure (ps.zip us):=by first|exact λ_ _ _ _ _ _=>bd1 λ_=>rfl|exact λ_ _ _ _ _ _=>bd2 λ_ _=>rfl|exact λ_ _ _ _ _ _=>bd3 λ_ _ _=>rfl|exact λ_ _ _ _ _ _=>bd4 λ_ _ _ _=>rfl):cW P w K mg base CX k x ps sp:=by
 obtain⟨a,oc,od,osl,kV,doc,pm,an,cdv,ct,l,c,e⟩:=q;have F:=bM l c e;have b:=F.binds hb;exact⟨_,_,ok _ F (W.mg_of X G a) e b,W.mg_of X G a,e,b⟩
theorem all_mk{l:W.OpenLaw}{K:W.Frag}{mg:Nz}{fa:Addr}(X:K.In h)(G:h.Ns mainGlobals mg)(J':mg "law"=some (.ref fa))
  (a1:FK K "only_of" oR f1) (a2:FK K "is_name" pB f2) (a3:FK K "are_signs" kN f3) (a4:FK K "check_made_of" fX f4) (a5:FK K "numbers_by_name" fC f5) (a6:FK K "beside" qW f6) (a7:FK K "above" uW f7) (a8:FK K "mirror" ri f8) (a9:FK K "column_from_below" dW f9) (Lw:FK K "quarter" oZ f10) (Ku:FK K "turned" qR f11) (Lo:FK K "check_form" jj f12) (LN:FK K "lay" ES f13) (Lp:FK K "laid" zB f14) (Ml:FK K "numbers_in" jx f15) (Ki:FK K "cost_of" oq f16) (Lm:FK K "size_of" oK f17) (KG:FK K "fewest" q_ f18) (KC:FK K "paired_rows" iI f19) (KS:FK K "row_of" sJ f20) (Lf:FK K "count_trees" iz f21) (Kx:FK K "number_of" kq f22) (Kv:FK K "trees_of" mJ f23) (Mc:FK K "_law_cell" qK f24) (LH:FK K "_law_cells" o9 f25) (Ks:FK K "_law_whole" pi f26) (L4:FK K "_law_signs" oP f27) (LA:FK K "_law_names" pf f28) (Kd:FK K "_law_rule" rU f29) (KL:FK K "_law_grammar" km f30) (L7:FK K "_law_turned" mZ f31) (La:FK K "_law_joined" mB f32) (Lb:FK K "_law_noted" oN f33) (LF:FK K "_law_put" wk f34) (Kh:FK K "_law_step" rD f35) (KD:FK K "_law_grown" ou f36) (Kj:FK K "_law_laid" rg f37) (L9:FK K "_law_cost" rC f38) (LP:FK K "_law_key" vZ f39) (LU:FK K "_law_sound" o6 f40) (LJ:FK K "_law_row" vT f41) (Mb:FK K "_law_too_many" jd f42) (Mi:FK K "_law_just" rA f43) (KA:FK K "law" tT f44)
  {zfa zia yaa yac zda zVa yaf yaM yao zAa zea zta zaa zma zba zpa zca zua zja zBa zqa zxa zla zza zna zCa zra zga zwa zHa zIa zsa yab yaR yaX yaT yaS yaJ yaO yaQ yaU yae yah:Addr} {ycC ycZ ydH ydQ ydS ydJ yd5 yds:Tok} {ycl ycx yea ydI ycQ yc9 yc3 ycs ydP ydK zYe zZe zCd zDd zlc zmc zQc zRc zEd zFd zhg zig zaf zbf zSc zTc zpe zqe zZb zac zKe zLe znc zoc zcf zdf zUc zVc zae zbe zLf zMf zNf zOf zWc zXc ydM yc8 ycL ycJ yd1 yda ydU yc5 ydV ydf ycH ycA ydy ycR ycF ydd yc2 ydT:NG} {zhh zjh ycw yck zFa yax ybO ydW:ClassData} {zih zkh ydh ycc zyg ydt ydR ycO zef zGd zpc zYc zHd zjg zff zZc zre zbc zMe zqc zgf zad zce zPf zQf zbd ycb ydl yd7 ycp ycG ydr yec yb8 ycP ycn:Array (Option Value)} {yeb ydj yct yd0 ybF yce yd8 ycu ych ydL ybS ydz zhf zif zjf zkf zOb zlf zId zJd zKd zLd zsb zMd zrc zsc ztc zuc zbb zvc zcd zdd zed zfd zgb zgd zNd zOd zPd zQd ztb zRd zkg zlg zmg zng zde zog zmf znf zof zpf zPb zqf zhd zid zjd zkd zhb zld zse zte zue zve zCb zwe zcc zdc zec zfc zWa zgc zNe zOe zPe zQe zJb zRe zwc zxc zyc zzc zcb zAc zrf zsf ztf zuf zQb zvf zmd znd zod zpd zib zqd zee zfe zge zhe zzb zie zRf zSf zTf zUf zBc zVf zWf zXf zYf zZf zCc zag zrd ztd zud zvd zjb zwd ydi ydw ycm ydx ybw ycq ydF ycM ydX yde ybx ydN ydD ycj ydg ycv ybC yb6 ycS ydE ydk yc1 yb1 ycg ycN ycz yd9 ydA yb4 yc4 ydZ ycr ycV yca ybz ycI ydb ycX ydc yd4 yb0 ydq yb7 ycT ydm yd3 ybV ycy:Value}  (Gu:W.nsIn K mainGlobals "NoRule"=some (some (.ref zfa))) (Fh:K.lookup zfa=some ⟨.type "type",ycl,.cls zhh,zih⟩) (yh:W.excIn K zfa [.type "ValueError",.type "Exception",.type "BaseException",.type "object"] "ValueError.__new__"=true) (Cq:W.findIn K (.ref zfa) "__getattribute__"=some (some (.builtin "BaseException.__getattribute__"))) (BN:W.findIn K (.ref zfa) "__getattr__"=some none) (A7:W.mroIn K zfa (.type "BaseException")=some true) (B2:W.mroIn K zfa (.type "object")=some true) (Bq:W.findIn K (.ref zfa) "__class__"=some (some (.builtin "object.__class__"))) (A3:W.specialIn K (.builtin "object.__class__") "__get__"=some (some (.builtin "getset_descriptor.__get__"))) (AD:W.takesIn K (.builtin "object.__class__")=some true) (HU:W.nsIn K mainGlobals "NoFit"=some (some (.ref zia))) (Gb:K.lookup zia=some ⟨.type "type",ycx,.cls zjh,zkh⟩) (As:W.excIn K zia [.type "ValueError",.type "Exception",.type "BaseException",.type "object"] "ValueError.__new__"=true) (Dg:W.findIn K (.ref zia) "__getattribute__"=some (some (.builtin "BaseException.__getattribute__"))) (Eb:W.findIn K (.ref zia) "__getattr__"=some none) (DY:W.mroIn K zia (.type "BaseException")=some true) (DF:W.mroIn K zia (.type "object")=some true) (DL:W.findIn K (.ref zia) "__class__"=some (some (.builtin "object.__class__"))) (FO:W.nsIn K mainGlobals "NoName"=some (some (.ref yaa))) (Dx:K.lookup yaa=some ⟨.type "type",yea,.cls ycw,ydh⟩) (xa:W.excIn K yaa [.type "ValueError",.type "Exception",.type "BaseException",.type "object"] "ValueError.__new__"=true) (B6:W.findIn K (.ref yaa) "__getattribute__"=some (some (.builtin "BaseException.__getattribute__"))) (B0:W.findIn K (.ref yaa) "__getattr__"=some none) (Ca:W.mroIn K yaa (.type "BaseException")=some true) (CJ:W.mroIn K yaa (.type "object")=some true) (B8:W.findIn K (.ref yaa) "__class__"=some (some (.builtin "object.__class__"))) (Bg:W.nsIn K mainGlobals "NoNumber"=some (some (.ref yac))) (zG:K.lookup yac=some ⟨.type "type",ydI,.cls yck,ycc⟩) (rX:W.excIn K yac [.type "ValueError",.type "Exception",.type "BaseException",.type "object"] "ValueError.__new__"=true) (xm:W.findIn K (.ref yac) "__getattribute__"=some (some (.builtin "BaseException.__getattribute__"))) (xD:W.findIn K (.ref yac) "__getattr__"=some none) (xA:W.mroIn K yac (.type "BaseException")=some true) (xM:W.mroIn K yac (.type "object")=some true) (xT:W.findIn K (.ref yac) "__class__"=some (some (.builtin "object.__class__"))) (yv:W.nsIn K mainGlobals "NoGrammar"=some (some (.ref zda))) (pL:K.lookup zda=some ⟨.type "type",ycQ,.cls zFa,zyg⟩) (vW:W.excOut K zda [.type "ValueError",.type "Exception",.type "BaseException",.type "object"] "ValueError.__new__"=true) (vy:W.findIn K (.ref zda) "__getattribute__"=some (some (.builtin "BaseException.__getattribute__"))) (vQ:W.findIn K (.ref zda) "__getattr__"=some none) (vU:W.mroIn K zda (.type "BaseException")=some true) (wA:W.mroIn K zda (.type "object")=some true) (vg:W.findIn K (.ref zda) "__class__"=some (some (.builtin "object.__class__"))) (vX:W.findIn K (.ref zda) "__init__"=some (some (.ref zVa))) (v_:W.typeIn K (.ref zVa)=some (.type "function")) (vP:K.lookup zVa=some ⟨yeb,yc9,.func (W.fnOf "__init__" "NoGrammar.__init__" (bd k9) (ba k9) (am k9) .none ydj yct yd0 yc3 ybF yce),ydt⟩) (we:W.codeIn K ybF "NoGrammar.__init__"=true) (wB:W.keepIn K (.ref zVa)=true) (wD:W.findIn K (.ref zda) "__setattr__"=some (some (.builtin "object.__setattr__"))) (vC:W.strip zFa.mro=[.type "ValueError",.type "Exception",.type "BaseException",.type "object"]) (m_:zFa.hasDict=true) (uY:zFa.mro.contains (.type "object")=true) (vd:zFa.mro.isEmpty=false) (vn:W.findIn K (.ref zda) "why"=some none) (Gd:W.nsIn K mainGlobals "NoTree"=some (some (.ref yaf))) (yk:K.lookup yaf=some ⟨.type "type",ycs,.cls yax,ydR⟩) (Bl:W.excOut K yaf [.type "ValueError",.type "Exception",.type "BaseException",.type "object"] "ValueError.__new__"=true) (CS:W.findIn K (.ref yaf) "__getattribute__"=some (some (.builtin "BaseException.__getattribute__"))) (C5:W.findIn K (.ref yaf) "__getattr__"=some none) (CH:W.mroIn K yaf (.type "BaseException")=some true) (Cn:W.mroIn K yaf (.type "object")=some true) (BV:W.findIn K (.ref yaf) "__class__"=some (some (.builtin "object.__class__"))) (Cs:W.findIn K (.ref yaf) "__init__"=some (some (.ref yaM))) (Cd:W.typeIn K (.ref yaM)=some (.type "function")) (C_:K.lookup yaM=some ⟨yd8,ydP,.func (W.fnOf "__init__" "NoTree.__init__" (bd lm) (ba lm) (am lm) .none ycu ych ydL ydK ybS ydz),ycO⟩) (CC:W.codeIn K ybS "NoTree.__init__"=true) (C7:W.keepIn K (.ref yaM)=true) (B_:W.findIn K (.ref yaf) "__setattr__"=some (some (.builtin "object.__setattr__"))) (BK:W.strip yax.mro=[.type "ValueError",.type "Exception",.type "BaseException",.type "object"]) (uH:yax.hasDict=true) (CD:yax.mro.contains (.type "object")=true) (C4:yax.mro.isEmpty=false) (CY:W.findIn K (.ref yaf) "why"=some none) (BI:W.nsIn K mainGlobals "CAPITALS"=some (some (.str "ABCDEFGHIJKLMNOPQRSTUVWXYZ" ycC))) (F':W.nsIn K mainGlobals "SMALLS"=some (some (.str "abcdefghijklmnopqrstuvwxyz" ycZ))) (tJ:W.nsIn K mainGlobals "LONGEST_NAME"=some (some (.int 4 ydH))) (Ir:W.nsIn K mainGlobals "Rule"=some (some (.ref yao))) (Hl:W.specialIn K (.ref yao) "__getattribute__"=some (some (.builtin "type.__getattribute__"))) (Hy:W.readsIn K yao (.type "type")=true) (qf:W.findCls K (.ref yao) (.type "type") "__init__"=some (.val (.ref zAa))) (pY:K.lookup zAa=some ⟨zhf,zYe,.func (W.fnOf "__init__" "Rule.__init__" (bd eM) (ba eM) (am eM) .none zif zjf zkf zZe zOb zlf),zef⟩) (pU:W.codeIn K zOb "Rule.__init__"=true) (JT:W.keepIn K (.ref zAa)=true) (Dc:W.isFn K (.ref zAa)=true) (Bf:W.nsIn K mainGlobals "CellRule"=some (some (.ref zea))) (Lx:W.plainGet K zea Str.empty=true) (LL:W.hasDictIn K zea=true) (LV:W.plainOver K zea=true) (Kg:W.findIn K (.ref zea) "__setattr__"=some (some (.builtin "object.__setattr__"))) (LW:W.findIn K (.ref zea) "__class__"=some (some (.builtin "object.__class__"))) (Kc:W.mroIn K zea (.type "object")=some true) (LZ:W.findIn K (.ref zea) "name"=some none) (Ls:W.findIn K (.ref zea) "cost"=some none) (Li:W.findIn K (.ref zea) "part_names"=some none) (Mg:W.findIn K (.ref zea) "sign"=some none) (yH:W.makesIn K zea=true) (zk:W.findIn K (.ref zea) "__init__"=some (some (.ref zta))) (lG:K.lookup zta=some ⟨zId,zCd,.func (W.fnOf "__init__" "CellRule.__init__" (bd eQ) (ba eQ) (am eQ) .none zJd zKd zLd zDd zsb zMd),zGd⟩) (lT:W.codeIn K zsb "CellRule.__init__"=true) (KN:W.keepIn K (.ref zta)=true) (lF:W.isFn K (.ref zta)=true) (yN:W.keepIn K (.ref zea)=true) (K8:W.kitOne K (.ref zea) (.ref yao)=some true) (JJ:W.kitOne K (.ref zea) (.ref zea)=some true) (xq:W.nsIn K mainGlobals "BesideRule"=some (some (.ref zaa))) (LG:W.plainGet K zaa Str.empty=true) (Lu:W.hasDictIn K zaa=true) (K0:W.plainOver K zaa=true) (KF:W.findIn K (.ref zaa) "__setattr__"=some (some (.builtin "object.__setattr__"))) (K1:W.findIn K (.ref zaa) "__class__"=some (some (.builtin "object.__class__"))) (K2:W.mroIn K zaa (.type "object")=some true) (Kr:W.findIn K (.ref zaa) "name"=some none) (Kk:W.findIn K (.ref zaa) "cost"=some none) (Ll:W.findIn K (.ref zaa) "part_names"=some none) (L5:W.findIn K (.ref zaa) "one"=some none) (Kt:W.findIn K (.ref zaa) "other"=some none) (vj:W.makesIn K zaa=true) (wd:W.findIn K (.ref zaa) "__init__"=some (some (.ref zma))) (jW:K.lookup zma=some ⟨zrc,zlc,.func (W.fnOf "__init__" "BesideRule.__init__" (bd dc) (ba dc) (am dc) .none zsc ztc zuc zmc zbb zvc),zpc⟩) (jU:W.codeIn K zbb "BesideRule.__init__"=true) (L_:W.keepIn K (.ref zma)=true) (j3:W.isFn K (.ref zma)=true) (u6:W.keepIn K (.ref zaa)=true) (KZ:W.kitOne K (.ref zaa) (.ref yao)=some true) (J4:W.kitOne K (.ref zaa) (.ref zaa)=some true) (zm:W.nsIn K mainGlobals "AboveRule"=some (some (.ref zba))) (Ma:W.plainGet K zba Str.empty=true) (Mo:W.hasDictIn K zba=true) (Kb:W.plainOver K zba=true) (Mf:W.findIn K (.ref zba) "__setattr__"=some (some (.builtin "object.__setattr__"))) (Mq:W.findIn K (.ref zba) "__class__"=some (some (.builtin "object.__class__"))) (LO:W.mroIn K zba (.type "object")=some true) (KH:W.findIn K (.ref zba) "name"=some none) (LQ:W.findIn K (.ref zba) "cost"=some none) (Ky:W.findIn K (.ref zba) "part_names"=some none) (Mh:W.findIn K (.ref zba) "one"=some none) (K6:W.findIn K (.ref zba) "other"=some none) (xg:W.makesIn K zba=true) (xK:W.findIn K (.ref zba) "__init__"=some (some (.ref zpa))) (ka:K.lookup zpa=some ⟨zcd,zQc,.func (W.fnOf "__init__" "AboveRule.__init__" (bd dO) (ba dO) (am dO) .none zdd zed zfd zRc zgb zgd),zYc⟩) (kM:W.codeIn K zgb "AboveRule.__init__"=true) (Lg:W.keepIn K (.ref zpa)=true) (j8:W.isFn K (.ref zpa)=true) (xx:W.keepIn K (.ref zba)=true) (J_:W.kitOne K (.ref zba) (.ref yao)=some true) (JK:W.kitOne K (.ref zba) (.ref zba)=some true) (Bz:W.nsIn K mainGlobals "TurnRule"=some (some (.ref zca))) (Ke:W.plainGet K zca Str.empty=true) (LD:W.hasDictIn K zca=true) (Kf:W.plainOver K zca=true) (KQ:W.findIn K (.ref zca) "__setattr__"=some (some (.builtin "object.__setattr__"))) (Le:W.findIn K (.ref zca) "__class__"=some (some (.builtin "object.__class__"))) (K3:W.mroIn K zca (.type "object")=some true) (Me:W.findIn K (.ref zca) "name"=some none) (Mn:W.findIn K (.ref zca) "cost"=some none) (Kq:W.findIn K (.ref zca) "part_names"=some none) (KK:W.findIn K (.ref zca) "part"=some none) (LY:W.findIn K (.ref zca) "turning"=some none) (yJ:W.makesIn K zca=true) (An:W.findIn K (.ref zca) "__init__"=some (some (.ref zua))) (lZ:K.lookup zua=some ⟨zNd,zEd,.func (W.fnOf "__init__" "TurnRule.__init__" (bd eS) (ba eS) (am eS) .none zOd zPd zQd zFd ztb zRd),zHd⟩) (lN:W.codeIn K ztb "TurnRule.__init__"=true) (LX:W.keepIn K (.ref zua)=true) (lX:W.isFn K (.ref zua)=true) (yU:W.keepIn K (.ref zca)=true) (KI:W.kitOne K (.ref zca) (.ref yao)=some true) (JW:W.kitOne K (.ref zca) (.ref zca)=some true) (wR:W.nsIn K mainGlobals "MOST_SIGNS"=some (some (.int 4 ydQ))) (x9:W.nsIn K mainGlobals "MOST_RULES"=some (some (.int 24 ydS))) (xX:W.nsIn K mainGlobals "MOST_NAMES"=some (some (.int 8 ydJ))) (IN:W.nsIn K mainGlobals "MOST"=some (some (.int 6 yd5))) (Mj:W.kitOne K (.ref zea) (.ref zaa)=some false) (KR:W.kitOne K (.ref zea) (.ref zba)=some false) (Mr:W.kitOne K (.ref zea) (.ref zca)=some false) (Ka:W.kitOne K (.ref zaa) (.ref zea)=some false) (Lv:W.kitOne K (.ref zaa) (.ref zba)=some false) (K_:W.kitOne K (.ref zaa) (.ref zca)=some false) (KP:W.kitOne K (.ref zba) (.ref zea)=some false) (KJ:W.kitOne K (.ref zba) (.ref zaa)=some false) (Km:W.kitOne K (.ref zba) (.ref zca)=some false) (KU:W.kitOne K (.ref zca) (.ref zea)=some false) (LM:W.kitOne K (.ref zca) (.ref zaa)=some false) (KO:W.kitOne K (.ref zca) (.ref zba)=some false) (pr:W.findIn K (.ref zea) "parts"=some (some (.ref zja))) (u_:K.lookup zja=some ⟨zkg,zhg,.func (W.fnOf "parts" "Rule.parts" (bd dU) (ba dU) (am dU) .none zlg zmg zng zig zde zog),zjg⟩) (vE:W.codeIn K zde "Rule.parts"=true) (IH:W.keepIn K (.ref zja)=true) (gy:W.isFn K (.ref zja)=true) (qk:W.findIn K (.ref zea) "made"=some (some (.ref zBa))) (qd:K.lookup zBa=some ⟨zmf,zaf,.func (W.fnOf "made" "CellRule.made" (bd e_) (ba e_) (am e_) .none znf zof zpf zbf zPb zqf),zff⟩) (pS:W.codeIn K zPb "CellRule.made"=true) (J0:W.keepIn K (.ref zBa)=true) (pV:W.isFn K (.ref zBa)=true) (j_:W.findIn K (.ref zea) "part_rows"=some (some (.ref zqa))) (kg:K.lookup zqa=some ⟨zhd,zSc,.func (W.fnOf "part_rows" "CellRule.part_rows" (bd eX) (ba eX) (am eX) .none zid zjd zkd zTc zhb zld),zZc⟩) (kL:W.codeIn K zhb "CellRule.part_rows"=true) (J2:W.keepIn K (.ref zqa)=true) (kQ:W.isFn K (.ref zqa)=true) (mQ:W.findIn K (.ref zaa) "parts"=some (some (.ref zja))) (om:W.findIn K (.ref zaa) "made"=some (some (.ref zxa))) (m9:K.lookup zxa=some ⟨zse,zpe,.func (W.fnOf "made" "BesideRule.made" (bd dq) (ba dq) (am dq) .none zte zue zve zqe zCb zwe),zre⟩) (nA:W.codeIn K zCb "BesideRule.made"=true) (JU:W.keepIn K (.ref zxa)=true) (ny:W.isFn K (.ref zxa)=true) (ji:W.findIn K (.ref zaa) "part_rows"=some (some (.ref zla))) (jz:K.lookup zla=some ⟨zcc,zZb,.func (W.fnOf "part_rows" "BesideRule.part_rows" (bd df) (ba df) (am df) .none zdc zec zfc zac zWa zgc),zbc⟩) (jH:W.codeIn K zWa "BesideRule.part_rows"=true) (JR:W.keepIn K (.ref zla)=true) (jg:W.isFn K (.ref zla)=true) (nZ:W.findIn K (.ref zba) "parts"=some (some (.ref zja))) (oy:W.findIn K (.ref zba) "made"=some (some (.ref zza))) (pw:K.lookup zza=some ⟨zNe,zKe,.func (W.fnOf "made" "AboveRule.made" (bd dL) (ba dL) (am dL) .none zOe zPe zQe zLe zJb zRe),zMe⟩) (oJ:W.codeIn K zJb "AboveRule.made"=true) (JX:W.keepIn K (.ref zza)=true) (oI:W.isFn K (.ref zza)=true) (jV:W.findIn K (.ref zba) "part_rows"=some (some (.ref zna))) (jY:K.lookup zna=some ⟨zwc,znc,.func (W.fnOf "part_rows" "AboveRule.part_rows" (bd dN) (ba dN) (am dN) .none zxc zyc zzc zoc zcb zAc),zqc⟩) (jQ:W.codeIn K zcb "AboveRule.part_rows"=true) (JZ:W.keepIn K (.ref zna)=true) (jZ:W.isFn K (.ref zna)=true) (oS:W.findIn K (.ref zca) "parts"=some (some (.ref zja))) (qp:W.findIn K (.ref zca) "made"=some (some (.ref zCa))) (qo:K.lookup zCa=some ⟨zrf,zcf,.func (W.fnOf "made" "TurnRule.made" (bd eV) (ba eV) (am eV) .none zsf ztf zuf zdf zQb zvf),zgf⟩) (qg:W.codeIn K zQb "TurnRule.made"=true) (JM:W.keepIn K (.ref zCa)=true) (qi:W.isFn K (.ref zCa)=true) (ke:W.findIn K (.ref zca) "part_rows"=some (some (.ref zra))) (kU:K.lookup zra=some ⟨zmd,zUc,.func (W.fnOf "part_rows" "TurnRule.part_rows" (bd eO) (ba eO) (am eO) .none znd zod zpd zVc zib zqd),zad⟩) (kj:W.codeIn K zib "TurnRule.part_rows"=true) (JO:W.keepIn K (.ref zra)=true) (j9:W.isFn K (.ref zra)=true) (DN:W.nsIn K mainGlobals "Grammar"=some (some (.ref zga))) (LB:W.plainGet K zga Str.empty=true) (Kw:W.hasDictIn K zga=true) (Ko:W.plainOver K zga=true) (KB:W.findIn K (.ref zga) "__setattr__"=some (some (.builtin "object.__setattr__"))) (KM:W.findIn K (.ref zga) "__class__"=some (some (.builtin "object.__class__"))) (L6:W.mroIn K zga (.type "object")=some true) (Ld:W.findIn K (.ref zga) "signs"=some none) (Lk:W.findIn K (.ref zga) "start"=some none) (L8:W.findIn K (.ref zga) "kept"=some none) (K4:W.findIn K (.ref zga) "numbers"=some none) (Cl:W.makesIn K zga=true) (BE:W.findIn K (.ref zga) "__init__"=some (some (.ref zwa))) (mM:K.lookup zwa=some ⟨zee,zae,.func (W.fnOf "__init__" "Grammar.__init__" (bd eY) (ba eY) (am eY) .none zfe zge zhe zbe zzb zie),zce⟩) (mK:W.codeIn K zzb "Grammar.__init__"=true) (LR:W.keepIn K (.ref zwa)=true) (mH:W.isFn K (.ref zwa)=true) (A_:W.keepIn K (.ref zga)=true) (rV:W.findIn K (.ref zga) "rule"=some (some (.ref zHa))) (rj:K.lookup zHa=some ⟨zRf,zLf,.func (W.fnOf "rule" "Grammar.rule" (bd eR) (ba eR) (am eR) .none zSf zTf zUf zMf zBc zVf),zPf⟩) (sy:W.codeIn K zBc "Grammar.rule"=true) (JQ:W.keepIn K (.ref zHa)=true) (qH:W.isFn K (.ref zHa)=true) (qO:W.findIn K (.ref zga) "many"=some (some (.ref zIa))) (sw:K.lookup zIa=some ⟨zWf,zNf,.func (W.fnOf "many" "Grammar.many" (bd fb) (ba fb) (am fb) .none zXf zYf zZf zOf zCc zag),zQf⟩) (rF:W.codeIn K zCc "Grammar.many"=true) (J3:W.keepIn K (.ref zIa)=true) (sI:W.isFn K (.ref zIa)=true) (kG:W.findIn K (.ref zga) "numbers_of"=some (some (.ref zsa))) (kR:K.lookup zsa=some ⟨zrd,zWc,.func (W.fnOf "numbers_of" "Grammar.numbers_of" (bd b5) (ba b5) (am b5) .none ztd zud zvd zXc zjb zwd),zbd⟩) (kK:W.codeIn K zjb "Grammar.numbers_of"=true) (JS:W.keepIn K (.ref zsa)=true) (kf:W.isFn K (.ref zsa)=true) (Bp:W.nsIn K mainGlobals "TreeRows"=some (some (.ref yab))) (zC:W.plainGet K yab Str.empty=true) (Am:W.hasDictIn K yab=true) (y4:W.plainOver K yab=true) (Aj:W.findIn K (.ref yab) "__setattr__"=some (some (.builtin "object.__setattr__"))) (Ak:W.findIn K (.ref yab) "__class__"=some (some (.builtin "object.__class__"))) (zx:W.mroIn K yab (.type "object")=some true) (mS:W.findIn K (.ref yab) "grammar"=some none) (pj:W.findIn K (.ref yab) "steps"=some none) (nj:W.findIn K (.ref yab) "totals"=some none) (yI:W.makesIn K yab=true) (zX:W.findIn K (.ref yab) "__init__"=some (some (.ref yaR))) (lV:K.lookup yaR=some ⟨ydi,ydM,.func (W.fnOf "__init__" "TreeRows.__init__" (bd gG) (ba gG) (am gG) .none ydw ycm ydx yc8 ybw ycq),ycb⟩) (lK:W.codeIn K ybw "TreeRows.__init__"=true) (lQ:W.keepIn K (.ref yaR)=true) (lB:W.isFn K (.ref yaR)=true) (yX:W.keepIn K (.ref yab)=true) (mP:W.findIn K (.ref yab) "many_in"=some (some (.ref yaX))) (mR:K.lookup yaX=some ⟨ydF,ycL,.func (W.fnOf "many_in" "TreeRows.many_in" (bd cq) (ba cq) (am cq) .none ycM ydX yde ycJ ybx ydN),ydl⟩) (mv:W.codeIn K ybx "TreeRows.many_in"=true) (gW:W.keepIn K (.ref yaX)=true) (mT:W.isFn K (.ref yaX)=true) (lU:W.findIn K (.ref yab) "steps_of"=some (some (.ref yaT))) (lL:K.lookup yaT=some ⟨ydD,yd1,.func (W.fnOf "steps_of" "TreeRows.steps_of" (bd cv) (ba cv) (am cv) .none ycj ydg ycv yda ybC yb6),yd7⟩) (lJ:W.codeIn K ybC "TreeRows.steps_of"=true) (gn:W.keepIn K (.ref yaT)=true) (lI:W.isFn K (.ref yaT)=true) (lH:W.findIn K (.ref yab) "reckoned"=some (some (.ref yaS))) (lD:K.lookup yaS=some ⟨ycS,ydU,.func (W.fnOf "reckoned" "TreeRows.reckoned" (bd cw) (ba cw) (am cw) .none ydE ydk yc1 yc5 yb1 ycg),ycp⟩) (lP:W.codeIn K yb1 "TreeRows.reckoned"=true) (gq:W.keepIn K (.ref yaS)=true) (lO:W.isFn K (.ref yaS)=true) (iD:W.findIn K (.ref yab) "many_together"=some (some (.ref yaJ))) (iJ:K.lookup yaJ=some ⟨ycN,ydV,.func (W.fnOf "many_together" "TreeRows.many_together" (bd bx) (ba bx) (am bx) .none ycz yd9 ydA ydf yb4 yc4),ycG⟩) (iC:W.codeIn K yb4 "TreeRows.many_together"=true) (d8:W.keepIn K (.ref yaJ)=true) (iH:W.isFn K (.ref yaJ)=true) (mX:W.findIn K (.ref yab) "tree_in"=some (some (.ref yaO))) (m5:K.lookup yaO=some ⟨ydZ,ycH,.func (W.fnOf "tree_in" "TreeRows.tree_in" (bd cH) (ba cH) (am cH) .none ycr ycV yca ycA ybz ycI),ydr⟩) (mY:W.codeIn K ybz "TreeRows.tree_in"=true) (gZ:W.keepIn K (.ref yaO)=true) (mz:W.isFn K (.ref yaO)=true) (lY:W.findIn K (.ref yab) "trees_in"=some (some (.ref yaQ))) (lM:K.lookup yaQ=some ⟨ydb,ydy,.func (W.fnOf "trees_in" "TreeRows.trees_in" (bd cK) (ba cK) (am cK) .none ycX ydc yd4 ycR yb0 ydq),yec⟩) (lW:W.codeIn K yb0 "TreeRows.trees_in"=true) (gs:W.keepIn K (.ref yaQ)=true) (lE:W.isFn K (.ref yaQ)=true) (ki:W.findIn K (.ref yab) "number_in"=some (some (.ref yaU))) (ky:K.lookup yaU=some ⟨yb7,ycF,.func (W.fnOf "number_in" "TreeRows.number_in" (bd bY) (ba bY) (am bY) .none ycT ydm yd3 ydd ybV ycy),yb8⟩) (j':W.codeIn K ybV "TreeRows.number_in"=true) (fW:W.keepIn K (.ref yaU)=true) (kt:W.isFn K (.ref yaU)=true) (Dj:W.nsIn K mainGlobals "TooMany"=some (some (.ref yae))) (uQ:K.lookup yae=some ⟨.type "type",yc2,.cls ybO,ycP⟩) (tX:W.excIn K yae [.type "ValueError",.type "Exception",.type "BaseException",.type "object"] "ValueError.__new__"=true) (yY:W.findIn K (.ref yae) "__getattribute__"=some (some (.builtin "BaseException.__getattribute__"))) (Ac:W.findIn K (.ref yae) "__getattr__"=some none) (zQ:W.mroIn K yae (.type "BaseException")=some true) (zH:W.mroIn K yae (.type "object")=some true) (yE:W.findIn K (.ref yae) "__class__"=some (some (.builtin "object.__class__"))) (yj:W.nsIn K mainGlobals "MOST_TREES"=some (some (.int 300 yds))) (xh:W.nsIn K mainGlobals "QuiltError"=some (some (.ref yah))) (wq:K.lookup yah=some ⟨.type "type",ydT,.cls ydW,ycn⟩) (nF:W.excIn K yah [.type "ValueError",.type "Exception",.type "BaseException",.type "object"] "ValueError.__new__"=true) (s_:W.findIn K (.ref yah) "__getattribute__"=some (some (.builtin "BaseException.__getattribute__"))) (tO:W.findIn K (.ref yah) "__getattr__"=some none) (sZ:W.mroIn K yah (.type "BaseException")=some true) (tP:W.mroIn K yah (.type "object")=some true) (tj:W.findIn K (.ref yah) "__class__"=some (some (.builtin "object.__class__"))) (kA:ybO.mro.contains (.ref yah)=true) (Lq:W.kitOne K (.ref yae) (.ref yae)=some true) (KY:W.kitOne K (.ref yae) (.ref yac)=some false)
  (z0:W.nsIn K mainGlobals "len"=some none) (z1:W.nsIn K mainGlobals "range"=some none) (z2:W.nsIn K mainGlobals "list"=some none) (z3:W.nsIn K mainGlobals "tuple"=some none) (z4:W.nsIn K mainGlobals "isinstance"=some none) (z5:W.nsIn K mainGlobals "int"=some none) (z6:W.nsIn K mainGlobals "bool"=some none) (z7:W.nsIn K mainGlobals "str"=some none) (z8:W.nsIn K mainGlobals "reversed"=some none) (z9:W.nsIn K mainGlobals "all"=some none) (LC:W.nsIn K mainGlobals "enumerate"=some none) (Lj:W.nsIn K mainGlobals "zip"=some none) (Md:W.nsIn K mainGlobals "sorted"=some none) (L':W.nsIn K mainGlobals "set"=some none) (Mp:W.nsIn K mainGlobals "dict"=some none) (Kn:W.nsIn K mainGlobals "min"=some none) (KW:W.nsIn K mainGlobals "max"=some none) (Lc:W.nsIn K mainGlobals "sum"=some none) (K7:W.nsIn K mainGlobals "ValueError"=some none) :
  ∃fd:FuncData,(∀(s:Nv) (v:Value),BindsTo s fd ⟨[v],[]⟩ [("_law_script",v)])/\∀base:Heap,K.In base->base.Ns mainGlobals mg->aY l.prog w K mg base bw 111 fa fd ["_law_script"] (vi K):=by
 obtain⟨an,oc,od,osl,kV,doc,pm,ann,cdv,ct,hl,hc,hk⟩:=KA;have e:=J'.symm.trans (W.mg_of X G an);cases e;have FL:=bM hl hc hk;have nb:NB mg:=⟨W.mg_none_of X G z0,W.mg_none_of X G z1,W.mg_none_of X G z2,W.mg_none_of X G z3,W.mg_none_of X G z4,W.mg_none_of X G z5,W.mg_none_of X G z6,W.mg_none_of X G z7,W.mg_none_of X G z8,W.mg_none_of X G z9,W.mg_none_of X G LC,W.mg_none_of X G Lj,W.mg_none_of X G Md,W.mg_none_of X G L',W.mg_none_of X G Mp,W.mg_none_of X G Kn,W.mg_none_of X G KW,W.mg_none_of X G Lc,W.mg_none_of X G K7⟩;refine⟨W.fnOf "law" "law" (bd tT) (ba tT) (am tT) .none kV doc pm ann cdv ct,λs v=>.of_eq rfl,λbase _ _=>?_⟩;have zDa:=W.mg_of X G Gu;have xc_NoRule:qa K zfa [.type "ValueError",.type "Exception",.type "BaseException",.type "object"] "ValueError.__new__":=⟨yh⟩;have zya:XR K zfa:=⟨_,_,_,_,_,_,_,_,⟨yh⟩,PySem.F.excBase_ValueError,rfl,PySem.F.excBase_ValueError⟩;have xt_NoRule:W.XTy K zfa:=⟨Cq,BN,A7,B2,Bq,A3,AD,_,_,_,Fh⟩;have zGb:=W.mg_of X G HU;have xc_NoFit:qa K zia [.type "ValueError",.type "Exception",.type "BaseException",.type "object"] "ValueError.__new__":=⟨As⟩;have zwb:XR K zia:=⟨_,_,_,_,_,_,_,_,⟨As⟩,PySem.F.excBase_ValueError,rfl,PySem.F.excBase_ValueError⟩;have xt_NoFit:W.XTy K zia:=⟨Dg,Eb,DY,DF,DL,A3,AD,_,_,_,Gb⟩;have ya9:=W.mg_of X G FO;have xc_NoName:qa K yaa [.type "ValueError",.type "Exception",.type "BaseException",.type "object"] "ValueError.__new__":=⟨xa⟩;have ybh:XR K yaa:=⟨_,_,_,_,_,_,_,_,⟨xa⟩,PySem.F.excBase_ValueError,rfl,PySem.F.excBase_ValueError⟩;have xt_NoName:W.XTy K yaa:=⟨B6,B0,Ca,CJ,B8,A3,AD,_,_,_,Dx⟩;have yas:=W.mg_of X G Bg;have xc_NoNumber:qa K yac [.type "ValueError",.type "Exception",.type "BaseException",.type "object"] "ValueError.__new__":=⟨rX⟩;have yaF:XR K yac:=⟨_,_,_,_,_,_,_,_,⟨rX⟩,PySem.F.excBase_ValueError,rfl,PySem.F.excBase_ValueError⟩;have xt_NoNumber:W.XTy K yac:=⟨xm,xD,xA,xM,xT,A3,AD,_,_,_,zG⟩;have zva:=W.mg_of X G yv;have zvg:o7 K zda [.type "ValueError",.type "Exception",.type "BaseException",.type "object"] "ValueError.__new__":=⟨vW⟩;have xt_NoGrammar:W.XTy K zda:=⟨vy,vQ,vU,wA,vg,A3,AD,_,_,_,pL⟩;have ybB:W.clsIn K zda=some zFa:=by unfold W.clsIn;rw[pL]
 have xh_NoGrammar:W.hasDictIn K zda=true:=by unfold W.hasDictIn;rw[ybB];exact m_
 have ybX:=bM (st:=k9) vP we wB;have ycd:W.XSt K zda "why":=⟨wD,⟨zFa,ybB,vC,m_,uY,vd⟩,vn⟩;have ycU:=ybX.binds (ps:=["self","why"]) λ_ _ _ _ _ _=>bd2 λ_ _=>rfl
 have zoa:XI l.prog w K mg base 1 zda "why":=⟨_,_,_,_,_,_,_,_,zVa,_,_,zvg,PySem.F.excBase_ValueError,rfl,PySem.F.excBase_ValueError,vX,v_,DS ybX ycd,ycU⟩;have yaE:=W.mg_of X G Gd;have ydn:o7 K yaf [.type "ValueError",.type "Exception",.type "BaseException",.type "object"] "ValueError.__new__":=⟨Bl⟩;have xt_NoTree:W.XTy K yaf:=⟨CS,C5,CH,Cn,BV,A3,AD,_,_,_,yk⟩;have ybN:W.clsIn K yaf=some yax:=by unfold W.clsIn;rw[yk]
 have xh_NoTree:W.hasDictIn K yaf=true:=by unfold W.hasDictIn;rw[ybN];exact uH
 have ybK:=bM (st:=lm) C_ CC C7;have ycY:W.XSt K yaf "why":=⟨B_,⟨yax,ybN,BK,uH,CD,C4⟩,CY⟩;have ycE:=ybK.binds (ps:=["self","why"]) λ_ _ _ _ _ _=>bd2 λ_ _=>rfl
 have yaD:XI l.prog w K mg base 1 yaf "why":=⟨_,_,_,_,_,_,_,_,yaM,_,_,ydn,PySem.F.excBase_ValueError,rfl,PySem.F.excBase_ValueError,Cs,Cd,D9 ybK ycY,ycE⟩;have ybt:=W.mg_of X G BI;have yaH:=W.mg_of X G F';have ybl:=W.mg_of X G tJ;have yc0:=W.mg_of X G Ir;have zUb:=bM (st:=eM) pY pU JT;have zGf:=zUb.binds (ps:=["self","name","cost","part_names"]) λ_ _ _ _ _ _=>bd4 λ_ _ _ _=>rfl
 have ydC:Dz K yao "__init__" zAa:=⟨Hl,Hy,qf,JT⟩;have zFb:=W.mg_of X G Bf;have zPa:fY K zea:=⟨⟨Lx,LL,LV,Kg⟩,LW,A3,AD,Kc⟩;have zub:=bM (st:=eQ) lG lT KN;have zUd:=zub.binds (ps:=["self","name","cost","sign"]) λ_ _ _ _ _ _=>bd4 λ_ _ _ _=>rfl
 have zGg:Mk K zea zta:=⟨yH,zk,lF,yN⟩;have zwg:=W.mg_of X G xq;have zNa:fY K zaa:=⟨⟨LG,Lu,K0,KF⟩,K1,A3,AD,K2⟩;have zeb:=bM (st:=dc) jW jU L_;have zIc:=zeb.binds (ps:=["self","name","cost","one","other"]) λ_ _ _ _ _ _=>bd5 λ_ _ _ _ _=>rfl
 have zgg:Mk K zaa zma:=⟨vj,wd,j3,u6⟩;have zHg:=W.mg_of X G zm;have zTa:fY K zba:=⟨⟨Ma,Mo,Kb,Mf⟩,Mq,A3,AD,LO⟩;have znb:=bM (st:=dO) ka kM Lg;have zyd:=znb.binds (ps:=["self","name","cost","one","other"]) λ_ _ _ _ _ _=>bd5 λ_ _ _ _ _=>rfl
 have zxg:Mk K zba zpa:=⟨xg,xK,j8,xx⟩;have zWg:=W.mg_of X G Bz;have zQa:fY K zca:=⟨⟨Ke,LD,Kf,KQ⟩,Le,A3,AD,K3⟩;have zvb:=bM (st:=eS) lZ lN LX;have zVd:=zvb.binds (ps:=["self","name","cost","part","turning"]) λ_ _ _ _ _ _=>bd5 λ_ _ _ _ _=>rfl
 have zIg:Mk K zca zua:=⟨yJ,An,lX,yU⟩
 let R:RC:=⟨yao,zea,zaa,zba,zca⟩
 have rk:qh K R:=⟨zPa,zNa,zTa,zQa,⟨LZ,Ls,Li,Mg⟩,⟨Kr,Kk,Ll,L5,Kt⟩,⟨KH,LQ,Ky,Mh,K6⟩,⟨Me,Mn,Kq,KK,LY⟩,K8,KZ,J_,KI,JJ,J4,JK,JW⟩;have ybs:=W.mg_of X G wR;have ya8:=W.mg_of X G x9;have ybd:=W.mg_of X G xX;have yai:=W.mg_of X G IN;have rk4:GQ K R:=⟨λi j hi hj=>by rcases gu hi with rfl | rfl | rfl | rfl<;>rcases gu hj with rfl | rfl | rfl | rfl;exact JJ;exact Mj;exact KR;exact Mr;exact Ka;exact J4;exact Lv;exact K_;exact KP;exact KJ;exact JK;exact Km;exact KU;exact LM;exact KO;exact JW⟩;have zUa:=bM (st:=dU) u_ vE IH;have zob:=zUa.binds (ps:=["self"]) λ_ _ _ _ _ _=>bd1 λ_=>rfl
 have zBe:c_ K zea "parts" zja:=⟨pr,gy,IH⟩;have zVb:=bM (st:=e_) qd pS J0;have zHf:=zVb.binds (ps:=["self","pictures"]) λ_ _ _ _ _ _=>bd2 λ_ _=>rfl
 have zVe:c_ K zea "made" zBa:=⟨qk,pV,J0⟩;have zpb:=bM (st:=eX) kg kL J2;have zzd:=zpb.binds (ps:=["self","rows","columns","cost"]) λ_ _ _ _ _ _=>bd4 λ_ _ _ _=>rfl
 have zJc:c_ K zea "part_rows" zqa:=⟨j_,kQ,J2⟩;have zWd:c_ K zaa "parts" zja:=⟨mQ,gy,IH⟩;have zEb:=bM (st:=dq) m9 nA JU;have zCe:=zEb.binds (ps:=["self","pictures"]) λ_ _ _ _ _ _=>bd2 λ_ _=>rfl
 have zme:c_ K zaa "made" zxa:=⟨om,ny,JU⟩;have zYa:=bM (st:=df) jz jH JR;have zic:=zYa.binds (ps:=["self","rows","columns","cost"]) λ_ _ _ _ _ _=>bd4 λ_ _ _ _=>rfl
 have zNb:c_ K zaa "part_rows" zla:=⟨ji,jg,JR⟩;have zne:c_ K zba "parts" zja:=⟨nZ,gy,IH⟩;have zLb:=bM (st:=dL) pw oJ JX;have zWe:=zLb.binds (ps:=["self","pictures"]) λ_ _ _ _ _ _=>bd2 λ_ _=>rfl
 have zDe:c_ K zba "made" zza:=⟨oy,oI,JX⟩;have zfb:=bM (st:=dN) jY jQ JZ;have zKc:=zfb.binds (ps:=["self","rows","columns","cost"]) λ_ _ _ _ _ _=>bd4 λ_ _ _ _=>rfl
 have zjc:c_ K zba "part_rows" zna:=⟨jV,jZ,JZ⟩;have zEe:c_ K zca "parts" zja:=⟨oS,gy,IH⟩;have zWb:=bM (st:=eV) qo qg JM;have zIf:=zWb.binds (ps:=["self","pictures"]) λ_ _ _ _ _ _=>bd2 λ_ _=>rfl
 have zXe:c_ K zca "made" zCa:=⟨qp,qi,JM⟩;have zqb:=bM (st:=eO) kU kj JO;have zAd:=zqb.binds (ps:=["self","rows","columns","cost"]) λ_ _ _ _ _ _=>bd4 λ_ _ _ _=>rfl
 have zLc:c_ K zca "part_rows" zra:=⟨ke,j9,JO⟩;have zgh:=W.mg_of X G DN;have zMa:fY K zga:=⟨⟨LB,Kw,Ko,KB⟩,KM,A3,AD,L6⟩;have zAb:=bM (st:=eY) mM mK LR;have zoe:=zAb.binds (ps:=["self","signs","start","rules"]) λ_ _ _ _ _ _=>bd4 λ_ _ _ _=>rfl
 have zXg:Mk K zga zwa:=⟨Cl,BE,mH,A_⟩;have gk:JP K zga:=⟨zMa,Ld,Lk,L8,K4⟩;have zMc:=bM (st:=eR) rj sy JQ;have zcg:=zMc.binds (ps:=["self","k"]) λ_ _ _ _ _ _=>bd2 λ_ _=>rfl
 have zJf:c_ K zga "rule" zHa:=⟨rV,qH,JQ⟩;have zNc:=bM (st:=fb) sw rF J3;have zdg:=zNc.binds (ps:=["self"]) λ_ _ _ _ _ _=>bd1 λ_=>rfl
 have zKf:c_ K zga "many" zIa:=⟨qO,sI,J3⟩;have zrb:=bM (st:=b5) kR kK JS;have zBd:=zrb.binds (ps:=["self","name"]) λ_ _ _ _ _ _=>bd2 λ_ _=>rfl
 have zOc:c_ K zga "numbers_of" zsa:=⟨kG,kf,JS⟩;have yc6:=W.mg_of X G Bp;have yaz:fY K yab:=⟨⟨zC,Am,y4,Aj⟩,Ak,A3,AD,zx⟩;have ybD:=bM (st:=gG) lV lK lQ;have ydG:=ybD.binds (ps:=["self","grammar"]) λ_ _ _ _ _ _=>bd2 λ_ _=>rfl
 have ycD:Mk K yab yaR:=⟨yI,zX,lB,yX⟩;have nt:av K yab "grammar"/\av K yab "steps"/\av K yab "totals":=⟨mS,pj,nj⟩;have ybg:=bM (st:=cq) mR mv gW;have ybL:=ybg.binds (ps:=["self","row"]) λ_ _ _ _ _ _=>bd2 λ_ _=>rfl
 have yb2:c_ K yab "many_in" yaX:=⟨mP,mT,gW⟩;have ybm:=bM (st:=cv) lL lJ gn;have ybI:=ybm.binds (ps:=["self","row"]) λ_ _ _ _ _ _=>bd2 λ_ _=>rfl
 have ybW:c_ K yab "steps_of" yaT:=⟨lU,lI,gn⟩;have ya6:=bM (st:=cw) lD lP gq;have ybM:=ya6.binds (ps:=["self","row"]) λ_ _ _ _ _ _=>bd2 λ_ _=>rfl
 have ybU:c_ K yab "reckoned" yaS:=⟨lH,lO,gq⟩;have ybf:=bM (st:=bx) iJ iC d8;have ybv:=ybf.binds (ps:=["self","rows"]) λ_ _ _ _ _ _=>bd2 λ_ _=>rfl
 have ybJ:c_ K yab "many_together" yaJ:=⟨iD,iH,d8⟩;have ybR:=bM (st:=cH) m5 mY gZ;have ydo:=ybR.binds (ps:=["self","row","k"]) λ_ _ _ _ _ _=>bd3 λ_ _ _=>rfl
 have ycW:c_ K yab "tree_in" yaO:=⟨mX,mz,gZ⟩;have ybQ:=bM (st:=cK) lM lW gs;have ydu:=ybQ.binds (ps:=["self","rows","k"]) λ_ _ _ _ _ _=>bd3 λ_ _ _=>rfl
 have ydv:c_ K yab "trees_in" yaQ:=⟨lY,lE,gs⟩;have ybY:=bM (st:=bY) ky j' fW;have yb9:=ybY.binds (ps:=["self","tree"]) λ_ _ _ _ _ _=>bd2 λ_ _=>rfl
 have yco:c_ K yab "number_in" yaU:=⟨ki,kt,fW⟩;have yaB:=W.mg_of X G Dj;have ycf:qa K yae [.type "ValueError",.type "Exception",.type "BaseException",.type "object"] "ValueError.__new__":=⟨tX⟩;have ybb:XR K yae:=⟨_,_,_,_,_,_,_,_,⟨tX⟩,PySem.F.excBase_ValueError,rfl,PySem.F.excBase_ValueError⟩;have ydY:W.XTy K yae:=⟨yY,Ac,zQ,zH,yE,A3,AD,_,_,_,uQ⟩;have ybk:=W.mg_of X G yj;have ybo:=W.mg_of X G xh;have ycB:qa K yah [.type "ValueError",.type "Exception",.type "BaseException",.type "object"] "ValueError.__new__":=⟨nF⟩;have xr_QuiltError:XR K yah:=⟨_,_,_,_,_,_,_,_,⟨nF⟩,PySem.F.excBase_ValueError,rfl,PySem.F.excBase_ValueError⟩;have xt_QuiltError:W.XTy K yah:=⟨s_,tO,sZ,tP,tj,A3,AD,_,_,_,wq⟩;have yci:En K yae yah:=⟨_,_,_,uQ,kA⟩;have ya3:o7 K yae [.type "ValueError",.type "Exception",.type "BaseException",.type "object"] "ValueError.__new__":=ycf.out;have ybc:o7 K yah [.type "ValueError",.type "Exception",.type "BaseException",.type "object"] "ValueError.__new__":=ycB.out;have yar:=a1∣Ab F nb;have yaG:=a2∣zN F nb ybl ybt yar;have zha:BJ l.prog w K mg base (bI l.prog w) 3 "Rule" "__init__" ["self","name","cost","part_names"] (dR K zfa):=⟨_,_,_,vN zUb nb zDa zya yaG,yc0,ydC,zGf⟩;have zXb:mw l.prog w K mg base (bI l.prog w) 4 "CellRule" zea ["self","name","cost","sign"] (jh K zfa):=⟨_,_,vA zub nb yaH zDa zya yar zha,zFb,zGg,zUd⟩;have zBb:mw l.prog w K mg base (bI l.prog w) 4 "BesideRule" zaa ["self","name","cost","one","other"] (dM K zfa):=⟨_,_,rY zeb nb zha,zwg,zgg,zIc⟩;have zIb:mw l.prog w K mg base (bI l.prog w) 4 "AboveRule" zba ["self","name","cost","one","other"] (dM K zfa):=⟨_,_,tG znb nb zha,zHg,zxg,zyd⟩;have zYb:mw l.prog w K mg base (bI l.prog w) 4 "TurnRule" zca ["self","name","cost","part","turning"] (jE K zfa):=⟨_,_,u3 zvb nb zDa zya zha,zWg,zIg,zVd⟩;have yay:qb l.prog w K mg base bw 1 "parts" (pk K R):=Dr ⟨_,_,_,fQ zUa nb,zPa.cl,zBe,zob⟩ ⟨_,_,_,fQ zUa nb,zNa.cl,zWd,zob⟩ ⟨_,_,_,fQ zUa nb,zTa.cl,zne,zob⟩ ⟨_,_,_,fQ zUa nb,zQa.cl,zEe,zob⟩;have ybi:=a3∣ww F nb ybs yaH yar;have ybn:=a4∣oX F nb rk rk4 ya8 zFb zva zoa ybi yaG;have ya7:=a5∣mL F nb rk yay;have zPc:mw l.prog w K mg base (bI l.prog w) 4 "Grammar" zga ["self","signs","start","rules"] (jl K R zda):=⟨_,_,uV zAb nb ybd zva zoa ybn ya7,zgh,zXg,zoe⟩;have yad:cn l.prog w K mg base bw 1 zga "rule" ["self","k"] (cr R zga):=⟨_,_,vY zMc nb zMa.cl gk.na,zMa.cl,zJf,zcg⟩;have yaZ:cn l.prog w K mg base bw 1 zga "many" ["self"] (jb R zga):=⟨_,_,vk zNc nb zMa.cl gk.na,zMa.cl,zKf,zdg⟩;have yan:cn l.prog w K mg base (bI l.prog w) 1 zga "numbers_of" ["self","name"] (cA R zga yaa):=⟨_,_,mU zrb nb zMa.cl gk.na ya9 ybh,zMa.cl,zOc,zBd⟩;have ybj:=a6∣Bj F nb yai zGb zwb;have ybq:=a7∣EG F nb yai zGb zwb;have yba:=a8∣C6 F nb;have ybu:=a9∣Co F nb;have ya5:=Lw∣yF F nb ybu;have zGe:=Ku∣Bo F nb yba ya5;have ya0:qb l.prog w K mg base (bI l.prog w) 4 "made" (rJ K R zia):=Dr ⟨_,_,_,(u4 zVb zPa.cl rk.a0.2.2.2).lift.mono nofun,zPa.cl,zVe,zHf⟩ ⟨_,_,_,(sO zEb ybj).mono nofun,zNa.cl,zme,zCe⟩ ⟨_,_,_,(sW zLb ybq).mono nofun,zTa.cl,zDe,zWe⟩ ⟨_,_,_,(wl zWb zQa.cl rk.a3.2.2.2.2 zGe).lift,zQa.cl,zXe,zIf⟩;have yaN:=Lo∣l9 F nb rk yaE yaD yay yad yaZ m k b 18 nofun;have yaV:=LN∣DV F nb ya0 yad m k b 18 nofun;have yaq:=Lp∣F_ F nb yaN yaV;have yaP:=Ml∣mq F nb m k b 18 nofun;have ybe:=Ki∣yt F nb nb.sum rk yad yaq yaP;have ybp:=Lm∣yG F nb;have yak:=KG∣Bk F;have yaC:=KC∣rS F nb yak;have yap:qb l.prog w K mg base bw 3 "part_rows" (mi R):=Dr ⟨_,_,_,(wJ zpb nb zPa.cl rk.a0.2.1).mono nofun,zPa.cl,zJc,zzd⟩ ⟨_,_,_,sf zYa nb zNa.cl ⟨rk.a1.2.1,rk.a1.2.2.2.1,rk.a1.2.2.2.2⟩ yaC,zNa.cl,zNb,zic⟩ ⟨_,_,_,tQ zfb nb zTa.cl ⟨rk.a2.2.1,rk.a2.2.2.2.1,rk.a2.2.2.2.2⟩ yaC,zTa.cl,zjc,zKc⟩ ⟨_,_,_,(wm zqb nb zQa.cl ⟨rk.a3.2.1,rk.a3.2.2.2.1,rk.a3.2.2.2.2⟩).mono nofun,zQa.cl,zLc,zAd⟩;have yat:mw l.prog w K mg base bw 1 "TreeRows" yab ["self","grammar"] (hU K):=⟨_,_,zL ybD nb,yc6,ycD,ydG⟩
 have yag:=j7 (P:=l.prog) (w:=w) (base:=base) (R:=R) ybg ybm ya6 ybf nb nb.sum yai yaz nt yb2 ybW ybU ybJ ybL ybI ybM ybv yak yan yad yap 17;have yal:=CZ (P:=l.prog) (w:=w) (base:=base) (R:=R) ybg ybm ya6 ybf nb nb.sum yai yaz nt yb2 ybW ybU ybJ ybL ybI ybM ybv yak yan yad yap;have yaW:=pI (P:=l.prog) (w:=w) (base:=base) (R:=R) ybR ybQ nb yaz yas yaF ycW ydv ydo ydu yag yal 17;have yaA:=KS∣Cu F nb rk yad yaq ybp ybe;have yaK:=mr (P:=l.prog) (w:=w) (base:=base) (R:=R) ybY nb yaz nt yco yb9 yaA yal yag 16 nofun;have yaI:=Lf.cal l.prog w base X G (λ_ F m k b=>qU F nb yaz nt yat yag) (λ_ _ _ _ _ _=>bd5 λ_ _ _ _ _=>rfl);have ybr:=Kx∣u7 F nb yaz nt yaq yat yaK;have yam:=Kv.cal l.prog w base X G (λ_ F m k b=>wO F nb yaz nt ybk yaB ybb yat yag yaW) (λ_ _ _ _ _ _=>bd5 λ_ _ _ _ _=>rfl);have zka:=Mc∣Bt F nb;have zYd:=LH∣zu F nb zka;have zRa:=Ks∣yL F nb;have zZa:=L4∣zi F nb;have zab:=LA∣zf F nb;have zHe:=Kd∣BQ F nb rk zXb zBb zIb zYb;have zOa:=KL∣vx F nb gk zHe zPc;have zJa:=L7∣w8 F nb;have zKa:=La∣yc F nb;have zXd:=Lb∣zz F nb;have zkc:=LF.cal l.prog w base X G (λ_ F m k b=>DD F nb nb.sum zXd) (λ_ _ _ _ _ _=>bd6 λ_ _ _ _ _ _=>rfl);have zIe:=Kh∣CP F nb zkc zJa zKa;have zZd:=KD∣Ag F nb zIe;have zEa:=Kj∣uS F nb zJa zKa m k b 16 nofun;have zLa:=L9∣uC F nb nb.sum m k b 16 nofun;have zxb:=LP∣xB F nb zEa zLa m k b 16 nofun;have zyb:=LU∣rQ F nb zRa m k b 16 nofun;have zHb:=LJ∣ET F nb zyb zEa zLa zxb;have zGa:=Mb∣tK F nb ybo yaB yas ybc rfl ya3 yci ydY Lq KY yam;have zJe:=Mi∣BC F nb zka zZa zab zOa yaI yam zGa zHb;exact HK FL nb zka zYd zRa zZa zab zZd zOa yaI ybr yam zGa zHb zJe
theorem walk{l:W.OpenLaw}{loose:ND}{XP:(Str->Option Value)->Heap->Prop}{YP:World->Heap->Prop}{d:DefRec}{K:Params->W.Frag}(hn:l.most=some 63)(hdf:d.params.defaults=[])
  (hY:∀(w:NF) (h:Heap),YP w h->(K w.params).In h)
  (F:∀(w:NF) (mg:Nz) (fa:Addr) (h:Heap),(K w.params).In h->h.Ns mainGlobals mg->mg d.name=some (.ref fa) ->
   ∃fd:FuncData,(∀(s:Nv) (u:Value),BindsTo s fd ⟨[u],[]⟩ [("_law_script",u)])/\∀base:Heap,(K w.params).In base->base.Ns mainGlobals mg->aY l.prog w (K w.params) mg base bw 111 fa fd ["_law_script"] (vi (K w.params))) :
  W.WalkO q loose XP YP l.row.toRowW d [] (λf vs=>PySem.call f vs):=
 L2.walk_of (n:=63) (k:=111) (x:="_law_script") (CX:=λ_=>bw) (sp:=λw=>vi (K w.params)) hn nofun hdf ⟨rfl,nofun,nofun⟩ hY F (λ_ _ a ns hl _ hS=>⟨a,ns,rfl,hS,λ_=>rfl⟩) λ_ _ _ _ _ z=>z
end Q34
open PySem PySem.W PyProof.Rows
local macro_rules | `(tactic| walk_at "kk")=>`(tactic| first | (refine' Q34.fk_mk ?p ?q ?r ?s;(case p=>k_is);(case q=>k_is);(case r=>k_is);(case s=>k_is)) | (refine' Q34.mk_mk ?p ?q ?r ?s;(case p=>k_is);(case q=>k_is);(case r=>k_is);(case s=>k_is)) | k_is | kernel_rfl | rfl | decide +kernel)
set_option maxRecDepth 100000 in
set_option maxHeartbeats 0 in
theorem PySem.Challenge.cw_quiltlaw_k34_rows_of_trees_holds : PySem.Challenge.rw_quiltlaw_k34_rows_of_trees.Holds := by
 w_on;o_law;k_head;(case hw=>w_witness2)
 k_fill
 refine Q34.walk (l:=PySem.Challenge.rw_quiltlaw_k34_rows_of_trees) rfl rfl (λw h Y=>PySem.W.kIn_of Y) ?F
 case F=>
  intro w mg fa h KX G hmg
  apply Q34.all_mk KX G hmg
  all_goals (try walk_at "kk")
