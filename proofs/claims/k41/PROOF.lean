import PyProof.Rows.All
import Wide.All
import OpenK.AllK
import Wide.FinOn
import PyProof.Rows.SeqMore
import HandS.ForMost
import HandS.Exc
import HandS.TryOnly
import HandS.ExcOwn
import HandS.WordsExc
import HandS.IsInst
import HandS.Wide
import HandS.TupAny
import HandS.Flow
import HandS.FStr
import HandS.NoneIn
import HandS.SortKw
import HandS.Codes
import HandS.Steps
import HandS.DictComp
import HandS.WordsDict
import HandS.More
import HandS.Walk
import HandS.Star
import HandS.Deep
import HandS.ExcIs
import HandS.Zip
import HandS.GenList
import HandS.GenCall
import HandS.TryMany
import KE.SortData
import KE.KMinKey
import KE.KeyNested
import PySem.Challenge.RW_legion_k41_least_situations
set_option Elab.async false
set_option linter.all false
set_option maxRecDepth 100000
namespace My
open PySem PySem.Spec PyProof.Rows L2
/-! ### lists that are read only, joined -/
def rCatS (K : PySem.W.Frag) : R2 := fun x y H Q => ∃ l b xs zs, x = .ref l ∧ y = .ref b ∧ SqL K H l xs ∧ SqL K H b zs ∧ xs.length + zs.length ≤ sizeLine ∧ ∀ p, H p = none → Q (.ref p) (upd H p (.lst (xs ++ zs)))
theorem op_catS {X : Cx} : OpR X (binaryOp .Add) (rCatS X.K) := by
  intro pins s σ H x y v u Q I rx ry h
  obtain ⟨l, b, xs, zs, rfl, rfl, hH, hB, hz, q⟩ := h
  cases rx
  cases ry
  obtain ⟨its, r, pl, z⟩ := I.list hH
  obtain ⟨its2, r2, pl2, z2⟩ := I.list hB
  have hl := r.length
  have hl2 := r2.length
  obtain ⟨⟨cls, dd, data, sl⟩, ho, hc, n, hd⟩ := pl.isList
  obtain ⟨⟨cls2, dd2, data2, sl2⟩, ho2, hc2, n2, hd2⟩ := pl2.isList
  simp only at hc hd hc2 hd2
  subst hc hd hc2 hd2
  have ea : its.toArray ++ its2.toArray = (its ++ its2).toArray := by simp
  refine concat_meets ⟨_, ho, rfl⟩ ⟨_, ho2, rfl⟩ noFill_list_add seq_list_add PySem.F.slot_list_add PySem.F.entry_list_add (PySem.F.args_list_add_2 _ _) (list_addW l b its.toArray its2.toArray n n2 dd dd2 sl sl2 (by rw [List.size_toArray, List.size_toArray]; omega)) ⟨ho, ho2, ?_⟩
  rw [ea]
  exact ⟨.ref _, _, I.lnew (t' := s.toks) (r.append r2) (by rw [List.length_append]; omega), rfl, q _ I.fresh⟩
/-- is True, is False, of anything -/
def rIsBl : R2 := fun x y H Q => ∃ b, y = .bl b ∧ Q (.bl (decide (x = .bl b))) H
theorem op_isBv {X : Cx} : OpR X (compareOp .Is) rIsBl := by
  intro pins s σ H x y v u Q I rx ry h
  obtain ⟨b, rfl, q⟩ := h
  cases (show u = Value.bool b from ry)
  have go : ∀ v : Value, plainIs v (.bool b) = true → (v == Value.bool b) = decide (x = .bl b) → wpAny (model X.prog X.w) X.A (compareOp .Is v (.bool b)) (EP X pins σ Q) X.xe s := fun v hp e =>
    wpAny_is_plain hp (by rw [e]; exact ⟨.bl _, H, I, rfl, q⟩)
  cases x with
  | bl c =>
    cases (show v = Value.bool c from rx)
    refine go _ rfl ?_
    cases b <;> cases c <;> rfl
  | non => cases (show v = Value.none from rx); exact go _ rfl rfl
  | int i => obtain ⟨t, rfl⟩ := (show ∃ t, v = Value.int i t from rx); exact go _ rfl rfl
  | str i => obtain ⟨t, rfl⟩ := (show ∃ t, v = Value.str i t from rx); exact go _ rfl rfl
  | byt i => obtain ⟨t, rfl⟩ := (show ∃ t, v = Value.bytes i t from rx); exact go _ rfl rfl
  | flt i => obtain ⟨t, rfl⟩ := (show ∃ t, v = Value.float i t from rx); exact go _ rfl rfl
  | ref a => cases (show v = Value.ref a from rx); exact go _ rfl rfl
  | ty a => cases (show v = Value.type a from rx); exact go _ rfl rfl
/-! ### rules with the written part named -/
section
variable {X : Cx} (K : PySem.W.Frag)
theorem ixL (h : X.K = K := by rfl) : IxR X (rIxL K) := h ▸ ix_list
theorem ixT (h : X.K = K := by rfl) : IxR X (rIxT K) := h ▸ ix_tup
theorem ixQ (h : X.K = K := by rfl) : IxR X (rIx K) := h ▸ ix_seq
theorem opIn (h : X.K = K := by rfl) : OpR X (compareOp .In) (rIn K false) := h ▸ op_in_seq
theorem opNotIn (h : X.K = K := by rfl) : OpR X (compareOp .NotIn) (rIn K true) := h ▸ op_notIn_seq
theorem opCat (h : X.K = K := by rfl) : OpR X (binaryOp .Add) (rCatS K) := h ▸ op_catS
theorem opCatT (h : X.K = K := by rfl) : OpR X (binaryOp .Add) (rCatA K) := h ▸ op_catA
theorem opEqD (hu : X.A.units + 64 < cLine) (h : X.K = K := by rfl) : OpR X (compareOp .Eq) (rEqD K) := h ▸ op_eqD hu
theorem opNeD (hu : X.A.units + 64 < cLine) (h : X.K = K := by rfl) : OpR X (compareOp .NotEq) (rNeD K) := h ▸ op_neD hu
theorem slL (h : X.K = K := by rfl) : SlR X (rSlL K) := h ▸ sl_list
theorem slT (h : X.K = K := by rfl) : SlR X (rSlT K) := h ▸ sl_tup
def rLenQ (K : PySem.W.Frag) : List V → Hp → VK → Prop := fun xs H Q => ∃ p ys, xs = [.ref p] ∧ (SqL K H p ys ∨ SqT K H p ys) ∧ Q (.int ys.length) H
theorem cLen (h : X.K = K := by rfl) : CallR X (.builtin "len") (rLenQ K) := h ▸ call_len_seq
def rListQ (K : PySem.W.Frag) : List V → Hp → VK → Prop := fun xs H Q => ∃ p ys, xs = [.ref p] ∧ (SqL K H p ys ∨ SqT K H p ys) ∧ ∀ l, H l = none → Q (.ref l) (upd H l (.lst ys))
theorem cList (h : X.K = K := by rfl) : CallR X (.type "list") (rListQ K) := h ▸ call_list_of
theorem cSum (hc : X.calm = true) (h : X.K = K := by rfl) : CallR X (.builtin "sum") (rSum K) := h ▸ cr_sum hc
theorem cAll (hc : X.calm = true) (h : X.K = K := by rfl) : CallR X (.builtin "all") (rAll K) := h ▸ cr_all hc
theorem cAny (hc : X.calm = true) (h : X.K = K := by rfl) : CallR X (.builtin "any") (rAny K) := h ▸ cr_any hc
theorem cIsi (h : X.K = K := by rfl) : CallR X (.builtin "isinstance") (rIsi K) := h ▸ call_isi
theorem peBm {T name id : String} {r : V → List V → Hp → VK → Prop} {to : TE} {t : TA} {o e : Expr} {es : List Expr} {apos cpos : Pos} (pa : PlainAttrs T) (slot : Slot T name id) (hty : typeOf (.builtin id) = pure (.type "method_descriptor")) (hm : MtR X id r) (ho : PE X o to) (ha : PA X (e :: es) t) (h : X.K = K := by rfl)
    (hbase : attributeBase o name X.env (eval o X.env) = eval o X.env := by rfl)
    (hfew : ((backTo cpos (starEach (e :: es) X.env)).all (fun x => !x.1) && (backToKw cpos (keywordEach [] X.env)).all (fun x => x.1.isSome)
      && decide ((e :: es).length + ([] : List Keyword).length + (if ([] : List Keyword).isEmpty then 0 else 1) < 30)) = true := by rfl)
    (hline : (apos.endLine == cpos.line) = true := by rfl) (hs : starEach (e :: es) X.env = (false, eval e X.env) :: starEach es X.env := by rfl) (hplain : (backTo cpos (starEach es X.env)).any (·.1) = false := by rfl) :
    PE X (.Call (.Attribute o name apos) (e :: es) [] cpos) (tBM K T r to t) := h ▸ pe_bm pa slot hty hm ho ha hbase hfew hline hs hplain
def tTruK (K : PySem.W.Frag) (ta : TE) : TT := fun σ H Q => ta σ H fun x H' => ∃ k, TruV K x H' k ∧ Q k H'
theorem ptTru {a : Expr} {ta : TE} (ha : PE X a ta) (he : ∀ whole, isTrue a X.env whole = (do let v ← whole; standAt a.pos; holding [v] (truthy v))) (h : X.K = K := by rfl) : PT X a (tTruK K ta) := h ▸ pt_truth ha he
theorem piL {tg l : Expr} {tl : TE} (hl : PE X l tl) (h : X.K = K := by rfl) : PI X tg l (iList K tl) := h ▸ pi_list hl
theorem piT {tg l : Expr} {tl : TE} (hl : PE X l tl) (h : X.K = K := by rfl) : PI X tg l (iTup K tl) := h ▸ pi_tup hl
end
/-! ### a def that is known -/
structure Fd (P : Program) (w : World) (K : PySem.W.Frag) (mg : Str → Option Value) (base : Heap) (x : Str) (ps : List Str) (k : Nat) (sp : Sp) : Prop where
  ex : ∃ (f : Addr) (fd : FuncData), FnOk P w K mg base CX0 k f fd ps sp ∧ mg x = some (.ref f) ∧ PySem.W.keepIn K (.ref f) = true ∧ Binds K fd ps []
theorem pe_fn {X : Cx} {x : Str} {ps : List Str} {k : Nat} {sp : Sp} {e : Expr} {es : List Expr} {t : TA} {p pos : Pos} (F : Fd X.prog X.w X.K X.mg X.base x ps k sp) (hr : Room k X.A) (hg : Gl X x) (ha : PA X (e :: es) t)
    (hdb : (x == ("__debug__" : Str)) = false := by decide) (he : starEach (e :: es) X.env = (false, eval e X.env) :: starEach es X.env := by rfl) (hpl : (backTo pos (starEach es X.env)).any (·.1) = false := by rfl) :
    PE X (.Call (.Name x p) (e :: es) [] pos) (tCall sp [] E0 t) := by
  obtain ⟨f, fd, G, m, kp, b⟩ := F.ex
  exact pe_call G hr hg m kp b .nil pass0 ha hdb he hpl
/-- the built-ins stand as they were -/
structure Bt (mg : Str → Option Value) : Prop where
  len : mg "len" = none
  int : mg "int" = none
  abs : mg "abs" = none
  range : mg "range" = none
  min : mg "min" = none
  str : mg "str" = none
  isinstance : mg "isinstance" = none
  bool : mg "bool" = none
  sum : mg "sum" = none
  list : mg "list" = none
  tuple : mg "tuple" = none
  repr : mg "repr" = none
  sorted : mg "sorted" = none
  enumerate : mg "enumerate" = none
  zip : mg "zip" = none
  all : mg "all" = none
  dict : mg "dict" = none
  max : mg "max" = none
  set : mg "set" = none
  ValueError : mg "ValueError" = none
/-! ### heaps -/
theorem same_new {H : Hp} {p : Addr} {o : HO} (h : H p = none) : Same H (upd H p o) := fun b x e => by
  rw [upd_ne (ne_of_none e h)]
  exact e
/-- an object that H does not know may change -/
theorem Same.mut {H H' : Hp} {p : Addr} {o : HO} (e : Same H H') (h : H p = none) : Same H (upd H' p o) := fun a u ha => by
  rw [upd_ne (ne_of_none ha h)]
  exact e a u ha
theorem sq {K : PySem.W.Frag} {H : Hp} {a : Addr} {xs : List V} (h : H a = some (.lst xs)) : SqL K H a xs := .inl (.inl h)
theorem st {K : PySem.W.Frag} {H : Hp} {a : Addr} {xs : List V} (h : H a = some (.tup xs)) : SqT K H a xs := .inl (.inl h)
theorem sz {n : Nat} (h : n ≤ 100000) : n ≤ sizeLine := Nat.le_trans h (by decide)
theorem szl {n : Nat} (h : n < 100000) : n < sizeLine := Nat.lt_of_lt_of_le h (by decide)
theorem Same.seqT {K : PySem.W.Frag} {H H' : Hp} {a : Addr} {xs : List V} (e : Same H H') (h : SqT K H a xs) : SqT K H' a xs := by
  rcases h with (h | ⟨o, h⟩) | h
  · exact .inl (.inl (e _ _ h))
  · exact .inl (.inr ⟨o, e _ _ h⟩)
  · exact .inr h
/-! ### numbers drawn below limits -/
def DOk : List Int → List Int → Prop
  | [], [] => True
  | d :: ds, m :: ms => (0 ≤ d ∧ d < m) ∧ DOk ds ms
  | _, _ => False
theorem DOk.snoc : ∀ {ds ms : List Int} {d m : Int}, DOk ds ms → 0 ≤ d → d < m → DOk (ds ++ [d]) (ms ++ [m])
  | [], [], _, _, _, h0, h1 => ⟨⟨h0, h1⟩, trivial⟩
  | [], _ :: _, _, _, h, _, _ => h.elim
  | _ :: _, [], _, _, h, _, _ => h.elim
  | _ :: _, _ :: _, _, _, h, h0, h1 => ⟨h.1, DOk.snoc h.2 h0 h1⟩
theorem DOk.len : ∀ {ds ms : List Int}, DOk ds ms → ds.length = ms.length
  | [], [], _ => rfl
  | [], _ :: _, h => h.elim
  | _ :: _, [], h => h.elim
  | _ :: _, _ :: _, h => by rw [List.length_cons, List.length_cons, DOk.len h.2]
theorem DOk.at : ∀ {ds ms : List Int} {i : Nat} {m : Int}, DOk ds ms → ms[i]? = some m → ∃ d, ds[i]? = some d ∧ 0 ≤ d ∧ d < m
  | [], [], _, _, _, e => by simp at e
  | [], _ :: _, _, _, h, _ => h.elim
  | _ :: _, [], _, _, h, _ => h.elim
  | d :: _, _ :: _, 0, m, h, e => ⟨d, rfl, h.1.1, by have := Option.some.inj e; rw [← this]; exact h.1.2⟩
  | _ :: ds, _ :: ms, i + 1, m, h, e => DOk.at (ds := ds) (ms := ms) (i := i) h.2 e
theorem DOk.cons {ds ms : List Int} {m : Int} (h : DOk ds (m :: ms)) : ∃ d r, ds = d :: r ∧ 0 ≤ d ∧ d < m ∧ DOk r ms := by
  cases ds with
  | nil => exact h.elim
  | cons d r => exact ⟨d, r, rfl, h.1.1, h.1.2, h.2⟩
theorem DOk.nil {ds : List Int} (h : DOk ds []) : ds = [] := by
  cases ds with
  | nil => rfl
  | cons d r => exact h.elim
theorem get_map {α : Type} {f : α → V} {xs : List α} {i : Nat} {x : α} (h : xs[i]? = some x) : (xs.map f)[i]? = some (f x) := by
  rw [List.getElem?_map, h]; rfl
theorem get_map_inv {α : Type} {f : α → V} {xs : List α} {i : Nat} {v : V} (h : (xs.map f)[i]? = some v) : ∃ x, xs[i]? = some x ∧ v = f x := by
  rw [List.getElem?_map] at h
  cases e : xs[i]? with
  | none => rw [e] at h; cases h
  | some x => rw [e] at h; exact ⟨x, rfl, (Option.some.inj h).symm⟩
theorem fmod_pos {a m : Int} (h : 0 < m) : 0 ≤ a.fmod m ∧ a.fmod m < m := ⟨Int.fmod_nonneg_of_pos a h, Int.fmod_lt_of_pos a h⟩
theorem take_snoc {α : Type} {xs : List α} {i : Nat} {x : α} (h : xs[i]? = some x) : xs.take (i + 1) = xs.take i ++ [x] := by
  rw [List.take_add_one, h]; rfl
end My
namespace My
open PySem PySem.Spec PyProof.Rows L2
def topS (i : Nat) : Stmt := PySem.Challenge.pw_legion_k41_least_situations.main.body.getD i (.Pass ⟨0, 0, 0, 0⟩)
theorem atI_in {α : Type} {xs : List α} {i : Int} (h0 : 0 ≤ i) (h1 : i < xs.length) : ∃ v, atI xs i = some v ∧ v ∈ xs := by
  obtain ⟨n, rfl⟩ := Int.eq_ofNat_of_zero_le h0
  have hn : n < xs.length := by omega
  exact ⟨xs[n], atI_nat (List.getElem?_eq_getElem hn), List.getElem_mem hn⟩
theorem atI_map {α : Type} {f : α → V} {xs : List α} {i : Int} (h0 : 0 ≤ i) (h1 : i < xs.length) : ∃ v, atI (xs.map f) i = some (f v) ∧ v ∈ xs ∧ xs[i.toNat]? = some v := by
  obtain ⟨n, rfl⟩ := Int.eq_ofNat_of_zero_le h0
  have hn : n < xs.length := by omega
  exact ⟨xs[n], atI_nat (get_map (List.getElem?_eq_getElem hn)), List.getElem_mem hn, List.getElem?_eq_getElem hn⟩
theorem len_app (a b : Str) : (a ++ b).length = a.length + b.length := by
  show (a.cps ++ b.cps).size = a.cps.size + b.cps.size
  exact Array.size_append
theorem len_join0 : ∀ (parts : List Str), (∀ p ∈ parts, p.length = 1) → (Txt.join (Str.ofString "") parts).length = parts.length := by
  intro parts h
  have e : ∀ parts : List Str, (∀ p ∈ parts, p.length = 1) → (TL.joinL [] (parts.map TL.tl)).length = parts.length := by
    intro parts
    induction parts with
    | nil => intro _; rfl
    | cons p r ih =>
      intro h
      have hp : (TL.tl p).length = 1 := by
        have := h p List.mem_cons_self
        rw [← this]
        exact Array.length_toList
      have hr := ih fun q hq => h q (List.mem_cons_of_mem _ hq)
      cases r with
      | nil => show (TL.tl p).length = 1; exact hp
      | cons q r =>
        show (TL.tl p ++ ([] ++ TL.joinL [] ((q :: r).map TL.tl))).length = _
        rw [List.length_append, List.nil_append, hr, hp, List.length_cons (a := p)]
        omega
  have e2 := TL.tl_join (Str.ofString "") parts
  rw [← TL.join_eq] at e2
  have e3 : (Txt.join (Str.ofString "") parts).length = (TL.tl (Txt.join (Str.ofString "") parts)).length := Array.length_toList.symm
  rw [e3, e2, show TL.tl (Str.ofString "") = [] by decide +kernel]
  exact e parts h
theorem len_digits : ∀ k : Nat, k < 60 → ((toString (k : Int) : String) |> fun s => (Str.ofString s).length) ≤ 2 := by
  intro k hk
  have : ∀ k : Fin 60, ((toString ((k : Nat) : Int) : String) |> fun s => (Str.ofString s).length) ≤ 2 := by decide +kernel
  exact this ⟨k, hk⟩
/-! ### tests that leave the heap -/
theorem ansOr {t u : TT} {σ : L2.St} {H : Hp} {a b : Bool} (ha : Ans t σ H a) (hb : Ans u σ H b) : Ans (tOr t u) σ H (a || b) := fun Q q => ha _ (by
  cases a with
  | true => exact iteT q
  | false => exact iteF (hb Q q))
theorem ansAnd {t u : TT} {σ : L2.St} {H : Hp} {a b : Bool} (ha : Ans t σ H a) (hb : Ans u σ H b) : Ans (tAnd t u) σ H (a && b) := fun Q q => ha _ (by
  cases a with
  | true => exact iteT (hb Q q)
  | false => exact iteF q)
theorem ifS {c : TT} {t u : TS} {D : Ends} {σ : L2.St} {H : Hp} {b : Bool} (h : Ans c σ H b) (ht : b = true → t D σ H) (hu : b = false → u D σ H) : tIfS c t u D σ H := h _ (by
  cases b with
  | true => exact iteT (ht rfl)
  | false => exact iteF (hu rfl))
theorem sum_ones : ∀ {ss : List Str}, (∀ s ∈ ss, s.length = 1) → (ss.map (·.length)).sum = ss.length
  | [], _ => rfl
  | s :: r, h => by
    rw [List.map_cons, List.sum_cons, sum_ones fun x hx => h x (List.mem_cons_of_mem _ hx), h s List.mem_cons_self, List.length_cons]
    omega
theorem flat_strs (ss : List Str) : (ss.map V.str).all flatV = true := by
  rw [List.all_eq_true]
  intro v hv
  obtain ⟨s, _, rfl⟩ := List.mem_map.mp hv
  rfl
theorem szc (n : Nat) {xs : List V} (h : xs.length = n := by rfl) (hn : n ≤ 100000 := by decide) : xs.length ≤ sizeLine := by rw [h]; exact sz hn
theorem ansIsi {K : PySem.W.Frag} {te : TE} {σ : L2.St} {H : Hp} {x : V} {T T2 : String} {b : Bool} (hx : ∀ Q : VK, Q x H → te σ H Q) (ty : TyX K H x (.type T)) (hb : kitB T T2 = some b) :
    Ans (tB (tCB (rIsi K) (tCons te (tCons (tC (.ty T2)) tNil)))) σ H b := fun Q q => hx _ ⟨x, _, _, _, b, rfl, .ty T2, ty, kit_ty hb, _, rfl, q⟩
theorem ansTo {t : TT} {σ : L2.St} {H : Hp} {b b' : Bool} (h : Ans t σ H b) (e : b = b') : Ans t σ H b' := e ▸ h
/-- lo <= x <= hi over whole numbers -/
theorem ansChain {ta tb tc : TE} {σ : L2.St} {H : Hp} {i j k : Int} (ha : Val ta σ H (.int i)) (hb : Val tb σ H (.int j)) (hc : Val tc σ H (.int k)) :
    Ans (tTest (tChain (rI0 fun i j => .bl (decide (i ≤ j))) (rI0 fun i j => .bl (decide (i ≤ j))) ta tb tc)) σ H (decide (i ≤ j) && decide (j ≤ k)) := fun Q q =>
  ha _ (hb _ ⟨i, j, rfl, rfl, _, rfl, by
    by_cases h : i ≤ j
    · rw [if_pos (decide_eq_true h)]
      refine hc _ ⟨j, k, rfl, rfl, _, rfl, ?_⟩
      rw [decide_eq_true h, Bool.true_and] at q
      exact q
    · rw [if_neg (by rw [decide_eq_false h]; exact Bool.false_ne_true)]
      rw [decide_eq_false h, Bool.false_and] at q
      exact ⟨_, rfl, q⟩⟩)
theorem ifQ {c : TT} {t u r : TS} {D : Ends} {σ : L2.St} {H : Hp} {b : Bool} (h : Ans c σ H b) (ht : b = true → t { D with nx := r D } σ H) (hu : b = false → u { D with nx := r D } σ H) : tSeq (tIfS c t u) r D σ H := ifS (D := { D with nx := r D }) h ht hu
theorem noQ {c : TT} {t r : TS} {D : Ends} {σ : L2.St} {H : Hp} (h : Ans c σ H false) (q : r D σ H) : tSeq (tIfS c t tNext) r D σ H := ifQ h (fun z => nomatch z) fun _ => q
theorem noS {c : TT} {t : TS} {D : Ends} {σ : L2.St} {H : Hp} (h : Ans c σ H false) (q : D.nx σ H) : tIfS c t tNext D σ H := ifS h (fun z => nomatch z) fun _ => q
theorem ifR {c : TT} {t r : TS} {D : Ends} {σ : L2.St} {H : Hp} {b : Bool} (h : Ans c σ H b) (ht : b = true → t { D with nx := r D } σ H) (hu : b = false → r D σ H) : tSeq (tIfS c t tNext) r D σ H := ifQ h ht hu
theorem cutV_map {α : Type} (f : α → V) (xs : List α) (lo hi : Option Int) : ∃ ys : List α, cutV (xs.map f) lo hi = ys.map f ∧ ys.length ≤ xs.length ∧ ∀ y ∈ ys, y ∈ xs := by
  refine ⟨(xs.drop (HT.sIx (xs.map f).length 0 lo)).take (HT.sIx (xs.map f).length (xs.map f).length hi - HT.sIx (xs.map f).length 0 lo), ?_, ?_, ?_⟩
  · unfold cutV
    rw [List.map_take, List.map_drop]
  · rw [List.length_take, List.length_drop]
    omega
  · intro y hy
    exact List.mem_of_mem_drop (List.mem_of_mem_take hy)
theorem iteFx {c : Bool} {A B : Prop} (h : c = false) (q : B) : if c = true then A else B := by
  subst h
  exact iteF q
theorem iteTx {c : Bool} {A B : Prop} (h : c = true) (q : A) : if c = true then A else B := by
  subst h
  exact iteT q
/-! ### names -/
def lets : Str := Str.ofString "abcdefghijklmnopqrstuvwxyz"
def sgns : Str := Str.ofString "abcdefghijklmnopqrstuvwxyz0123456789"
def resv : List Str := ["share", "lock", "bell", "kind", "any", "local", "skip", "set", "acquire", "release", "rest", "wake", "start", "check", "await", "mark", "if", "else", "loop", "choose", "or", "end", "and", "not"].map Str.ofString
structure NmF (s : Str) : Prop where
  l1 : 1 ≤ s.length
  l20 : s.length ≤ 20
  hd : ∃ c r, s.cps.toList = c :: r ∧ c ∈ lets.cps.toList
  al : ∀ c ∈ s.cps.toList, c ∈ sgns.cps.toList
theorem str_len (s : Str) : s.cps.toList.length = s.length := Array.length_toList
theorem str_app (a b : Str) : (a ++ b).cps.toList = a.cps.toList ++ b.cps.toList := by
  show (a.cps ++ b.cps).toList = _
  exact Array.toList_append
theorem let_sgn {c : Nat} (h : c ∈ lets.cps.toList) : c ∈ sgns.cps.toList := by
  have e : sgns = lets ++ Str.ofString "0123456789" := by decide +kernel
  rw [e, str_app]
  exact List.mem_append_left _ h
theorem nmF_cons {s : Str} {c : Nat} {r : List Nat} (e : s.cps.toList = c :: r) (hc : c ∈ lets.cps.toList) (hr : ∀ x ∈ r, x ∈ sgns.cps.toList) (hl : r.length ≤ 19) : NmF s := by
  have := str_len s
  rw [e, List.length_cons] at this
  refine ⟨by omega, by omega, ⟨c, r, e, hc⟩, fun x hx => ?_⟩
  rw [e] at hx
  rcases List.mem_cons.mp hx with h | h
  · rw [h]; exact let_sgn hc
  · exact hr x h
def nmfB (l : List Nat) : Bool := match l with
  | [] => false
  | c :: r => decide (c ∈ lets.cps.toList) && (r.all fun x => decide (x ∈ sgns.cps.toList)) && decide (r.length ≤ 19)
theorem nmF_of {s : Str} (h : nmfB s.cps.toList = true) : NmF s := by
  cases e : s.cps.toList with
  | nil => rw [e] at h; cases h
  | cons c r =>
    rw [e] at h
    simp only [nmfB, Bool.and_eq_true, decide_eq_true_eq, List.all_eq_true] at h
    exact nmF_cons e h.1.1 h.1.2 h.2
def digL (i : Nat) : List Nat := (Str.ofString (toString (i : Int))).cps.toList
theorem dig_ok : ∀ i : Fin 31, (∃ c r, digL i = c :: r ∧ c ∉ lets.cps.toList) ∧ (∀ x ∈ digL i, x ∈ sgns.cps.toList) ∧ (digL i).length ≤ 2 := by
  have h : ∀ i : Fin 31, (match digL i with
    | [] => false
    | c :: _ => !decide (c ∈ lets.cps.toList)) = true ∧ ((digL i).all fun x => decide (x ∈ sgns.cps.toList)) = true ∧ (digL i).length ≤ 2 := by decide +kernel
  intro i
  obtain ⟨h1, h2, h3⟩ := h i
  refine ⟨?_, fun x hx => of_decide_eq_true (List.all_eq_true.mp h2 x hx), h3⟩
  cases e : digL i with
  | nil => rw [e] at h1; cases h1
  | cons c r => rw [e] at h1; exact ⟨c, r, rfl, by simpa using h1⟩
def letAt (j : Nat) : Nat := lets.cps.toList.getD j 0
theorem let_inj : ∀ a b : Fin 26, letAt a = letAt b → a = b := by decide +kernel
theorem let_in : ∀ a : Fin 26, letAt a ∈ lets.cps.toList := by decide +kernel
def candL (i j : Nat) : List Nat := letAt (j % 26) :: (digL i ++ if j < 26 then [] else [120])
theorem cand_f {i j : Nat} (hi : i < 31) (s : Str) (e : s.cps.toList = candL i j) : NmF s := by
  obtain ⟨_, h2, h3⟩ := dig_ok ⟨i, hi⟩
  refine nmF_cons e (let_in ⟨j % 26, by omega⟩) (fun x hx => ?_) ?_
  · rcases List.mem_append.mp hx with h | h
    · exact h2 x h
    · split at h
      · cases h
      · rw [List.mem_singleton.mp h]; decide +kernel
  · rw [List.length_append]
    have : (if j < 26 then [] else [120] : List Nat).length ≤ 1 := by split <;> decide
    have h3' : (digL i).length ≤ 2 := h3
    omega
theorem resv_let : ∀ s ∈ resv, ∀ c ∈ s.cps.toList, c ∈ lets.cps.toList := by decide +kernel
theorem cand_nr {i j : Nat} (hi : i < 31) (s : Str) (e : s.cps.toList = candL i j) : s ∉ resv := fun hm => by
  obtain ⟨⟨c, r, ec, hc⟩, _⟩ := dig_ok ⟨i, hi⟩
  refine hc (resv_let s hm c ?_)
  rw [e]
  have : digL i = c :: r := ec
  unfold candL
  rw [this]
  exact List.mem_cons_of_mem _ (List.mem_append_left _ List.mem_cons_self)
theorem cand_inj {i j k : Nat} (hj : j < 52) (hk : k < 52) (e : candL i j = candL i k) : j = k := by
  have h1 : letAt (j % 26) = letAt (k % 26) := (List.cons.inj e).1
  have h2 := congrArg List.length (List.cons.inj e).2
  have h3 := congrArg Fin.val (let_inj ⟨j % 26, by omega⟩ ⟨k % 26, by omega⟩ h1)
  have h4 : j % 26 = k % 26 := h3
  rw [List.length_append, List.length_append] at h2
  split at h2 <;> split at h2 <;> simp only [List.length_nil, List.length_cons] at h2 <;> omega
theorem pigeon {α : Type} [BEq α] [LawfulBEq α] : ∀ (xs ys : List α), xs.Nodup → (∀ x ∈ xs, x ∈ ys) → xs.length ≤ ys.length
  | [], _, _, _ => Nat.zero_le _
  | x :: r, ys, hn, h => by
    have hx := h x List.mem_cons_self
    obtain ⟨hnx, hnr⟩ := List.nodup_cons.mp hn
    have ih := pigeon r (ys.erase x) hnr fun y hy => (List.mem_erase_of_ne fun (e : y = x) => hnx (e ▸ hy)).mpr (h y (List.mem_cons_of_mem _ hy))
    rw [List.length_erase_of_mem hx] at ih
    have := List.length_pos_of_mem hx
    rw [List.length_cons]
    omega
/-- of 52 names one is free -/
theorem cand_free {i : Nat} (hi : i < 31) {ss : List Str} (hl : ss.length < 52) (h : ∀ j < 52, ∀ s : Str, s.cps.toList = candL i j → s ∈ ss ∨ s ∈ resv) : False := by
  have hs : ∀ j < 52, candL i j ∈ ss.map fun s => s.cps.toList := fun j hj => by
    have e : ((⟨(candL i j).toArray⟩ : Str)).cps.toList = candL i j := rfl
    rcases h j hj _ e with m | m
    · exact List.mem_map.mpr ⟨_, m, e⟩
    · exact absurd m (cand_nr hi _ e)
  have hn : ((List.range 52).map (candL i)).Nodup := by
    refine List.nodup_iff_pairwise_ne.mpr ?_ |> fun z => z
    rw [List.pairwise_map]
    refine List.Pairwise.imp_of_mem (fun {a b} ha hb hab e => ?_) (List.nodup_iff_pairwise_ne.mp List.nodup_range)
    exact hab (cand_inj (List.mem_range.mp ha) (List.mem_range.mp hb) e)
  have := pigeon _ _ hn fun x hx => by
    obtain ⟨j, hj, rfl⟩ := List.mem_map.mp hx
    exact hs j (List.mem_range.mp hj)
  rw [List.length_map, List.length_map, List.length_range] at this
  omega
theorem cut_x : ∀ j : Fin 52, (cutS (Str.ofString "x") none (some (((j : Nat) : Int) / 26))).cps.toList = (if (j : Nat) < 26 then [] else [120]) := by decide +kernel
structure NmsOk (ss : List Str) : Prop where
  f : ∀ s ∈ ss, NmF s
  r : ∀ s ∈ ss, s ∉ resv
  nd : ss.Nodup
theorem NmsOk.snoc {ss : List Str} {s : Str} (h : NmsOk ss) (hf : NmF s) (hr : s ∉ resv) (hs : s ∉ ss) : NmsOk (ss ++ [s]) where
  f := fun x hx => by
    rcases List.mem_append.mp hx with m | m
    · exact h.f x m
    · rw [List.mem_singleton.mp m]; exact hf
  r := fun x hx => by
    rcases List.mem_append.mp hx with m | m
    · exact h.r x m
    · rw [List.mem_singleton.mp m]; exact hr
  nd := by
    refine List.nodup_append.mpr ⟨h.nd, List.nodup_cons.mpr ⟨(fun m => by cases m), List.nodup_nil⟩, fun a ha b hb e => ?_⟩
    rw [List.mem_singleton.mp hb] at e
    exact hs (e ▸ ha)
theorem inV_iff {l : Str} {xs : List Str} : inV (V.str l) (xs.map V.str) = true ↔ l ∈ xs := by
  unfold inV
  rw [List.any_map, List.any_eq_true]
  constructor
  · rintro ⟨x, hx, h⟩
    have : (x == l) = true := h
    rw [← eq_of_beq this]
    exact hx
  · intro h
    exact ⟨l, h, (beq_self_eq_true l : (l == l) = true)⟩
theorem mem_join0 {S : List Nat} : ∀ (parts : List Str), (∀ p ∈ parts, ∀ c ∈ p.cps.toList, c ∈ S) → ∀ c ∈ (Txt.join (Str.ofString "") parts).cps.toList, c ∈ S := by
  intro parts h c hc
  have e2 := TL.tl_join (Str.ofString "") parts
  rw [← TL.join_eq, show TL.tl (Str.ofString "") = [] by decide +kernel] at e2
  have e3 : (Txt.join (Str.ofString "") parts).cps.toList = TL.joinL [] (parts.map TL.tl) := e2
  rw [e3] at hc
  clear e2 e3
  induction parts with
  | nil => cases hc
  | cons p r ih =>
    cases r with
    | nil => exact h p List.mem_cons_self c hc
    | cons q r =>
      have hc2 : c ∈ TL.tl p ++ ([] ++ TL.joinL [] ((q :: r).map TL.tl)) := hc
      rw [List.nil_append] at hc2
      rcases List.mem_append.mp hc2 with m | m
      · exact h p List.mem_cons_self c m
      · exact ih (fun p hp => h p (List.mem_cons_of_mem _ hp)) m
theorem str_ext {a b : Str} (h : a.cps.toList = b.cps.toList) : a = b := by
  cases a; cases b
  have := Array.toList_inj.mp h
  simp only at this
  rw [this]
/-! ### values and conditions as trees -/
theorem Fd.none {P : Program} {w : World} {K : PySem.W.Frag} {mg : Str → Option Value} {base : Heap} {x qual : Str} {st : Stmt} {f : Addr} {fd : FuncData} {ps : List Str} {k : Nat} {sp : Sp} (F : Fun K x qual st f fd) (m : mg x = some (.ref f)) (b : Binds K fd ps [])
    (no : ∀ vs H Q E, ¬ sp vs H Q E) : Fd P w K mg base x ps k sp := ⟨f, fd, ⟨fun vs H Q E h => absurd h (no vs H Q E), fun A outer s H args us vs Q E _ _ _ _ h => absurd h (no vs H Q E)⟩, m, F.kp, b⟩
theorem yesQ {c : TT} {t u r : TS} {D : Ends} {σ : L2.St} {H : Hp} (h : Ans c σ H true) (q : t { D with nx := r D } σ H) : tSeq (tIfS c t u) r D σ H := ifQ h (fun _ => q) fun z => nomatch z
theorem yesS {c : TT} {t u : TS} {D : Ends} {σ : L2.St} {H : Hp} (h : Ans c σ H true) (q : t D σ H) : tIfS c t u D σ H := ifS h (fun _ => q) fun z => nomatch z
/-- what is new in H' over H -/
def Nw (H H' : Hp) : Hp := fun a => match H a with
  | none => H' a
  | some _ => none
theorem nw_at {H H' : Hp} {a : Addr} (h : H a = none) : Nw H H' a = H' a := by
  unfold Nw
  rw [h]
theorem nw_old {H H' : Hp} {a : Addr} {o : HO} (h : H a = some o) : Nw H H' a = none := by
  unfold Nw
  rw [h]
theorem nw_some {H H' : Hp} {a : Addr} {o : HO} (h : Nw H H' a = some o) : H a = none ∧ H' a = some o := by
  cases e : H a with
  | none => rw [nw_at e] at h; exact ⟨rfl, h⟩
  | some x => rw [nw_old e] at h; cases h
theorem nw_same {H H' : Hp} : Same (Nw H H') H' := fun _ _ h => (nw_some h).2
theorem nw_mono {H H1 H2 H3 : Hp} (a : Same H H1) (b : Same H2 H3) : Same (Nw H1 H2) (Nw H H3) := fun x o h => by
  obtain ⟨h1, h2⟩ := nw_some h
  rw [nw_at (a.free h1)]
  exact b x o h2
/-- what is there is there -/
def Dm (H H' : Hp) : Prop := ∀ a, H' a = none → H a = none
theorem Same.dm {H H' : Hp} (s : Same H H') : Dm H H' := fun _ h => s.free h
theorem Dm.trans {H H1 H2 : Hp} (a : Dm H H1) (b : Dm H1 H2) : Dm H H2 := fun x h => a x (b x h)
theorem dm_upd {H H' : Hp} {D : Addr} {o u : HO} (s : Same H H') (h : H' D = some o) : Dm (upd H D u) H' := fun a ha => by
  have hne : a ≠ D := fun e => by rw [e, h] at ha; cases ha
  rw [upd_ne hne]
  exact s.free ha
theorem dm_up {H : Hp} {D : Addr} {u : HO} : Dm H (upd H D u) := fun a ha => by
  by_cases e : a = D
  · rw [e, upd_same] at ha; cases ha
  · rw [upd_ne e] at ha; exact ha
theorem nw_mono2 {H H1 H2 H3 : Hp} (a : Dm H H1) (b : Same H2 H3) : Same (Nw H1 H2) (Nw H H3) := fun x o h => by
  obtain ⟨h1, h2⟩ := nw_some h
  rw [nw_at (a x h1)]
  exact b x o h2
theorem nw_upd {H H' : Hp} {a : Addr} {o u : HO} (h : H a = some o) : Same (Nw H H') (Nw H (upd H' a u)) := fun x y e => by
  obtain ⟨h1, h2⟩ := nw_some e
  rw [nw_at h1, upd_ne (ne_of_none h h1).symm]
  exact h2
inductive Ar where
  | add | sub | mul
def Ar.tx : Ar → Str
  | .add => Str.ofString "+"
  | .sub => Str.ofString "-"
  | .mul => Str.ofString "*"
def Ar.ev : Ar → Int → Int → Int
  | .add, a, b => a + b
  | .sub, a, b => a - b
  | .mul, a, b => a * b
inductive VT where
  | int (i : Int) | nm (s : Str) | op (o : Ar) (a b : VT)
def VT.ht : VT → Nat
  | .op _ a b => max a.ht b.ht + 1
  | _ => 0
def RVal (H : Hp) : VT → V → Prop
  | .int i, v => v = .int i
  | .nm s, v => v = .str s
  | .op o a b, v => ∃ t x y, v = .ref t ∧ H t = some (.tup [.str o.tx, x, y]) ∧ RVal H a x ∧ RVal H b y
theorem RVal.mono {H H' : Hp} (e : Same H H') : ∀ {t : VT} {v : V}, RVal H t v → RVal H' t v
  | .int _, _, h => h
  | .nm _, _, h => h
  | .op _ _ _, _, ⟨t, x, y, e1, e2, ha, hb⟩ => ⟨t, x, y, e1, e _ _ e2, RVal.mono e ha, RVal.mono e hb⟩
def look (kvs : List (Key × V)) (s : Str) : Int := match valV kvs (Sum.inr s) with
  | some (.int i) => i
  | _ => 0
def VT.ev (kvs : List (Key × V)) : VT → Int
  | .int i => i
  | .nm s => look kvs s
  | .op o a b => o.ev (a.ev kvs) (b.ev kvs)
def VT.wt : VT → Nat
  | .op _ a b => a.wt + b.wt
  | _ => 8
def Fine (kvs : List (Key × V)) : VT → Prop
  | .int i => i.natAbs < 256
  | .nm s => ∃ i : Int, valV kvs (Sum.inr s) = some (.int i) ∧ i.natAbs < 256
  | .op _ a b => Fine kvs a ∧ Fine kvs b
theorem VT.wt_pos : ∀ t : VT, 8 ≤ t.wt
  | .int _ => Nat.le_refl 8
  | .nm _ => Nat.le_refl 8
  | .op _ a b => by show 8 ≤ a.wt + b.wt; have := a.wt_pos; omega
theorem pow_add_le {a b x y : Nat} (ha : x < 2 ^ a) (hb : y < 2 ^ b) (h1 : 1 ≤ a) (h2 : 1 ≤ b) : x + y < 2 ^ (a + b) := by
  have ea : 2 ^ (a + b) = 2 ^ a * 2 ^ b := Nat.pow_add 2 a b
  have h3 : 2 ≤ 2 ^ a := by
    have := Nat.pow_le_pow_right (show 0 < 2 by decide) h1
    omega
  have h4 : 2 ≤ 2 ^ b := by
    have := Nat.pow_le_pow_right (show 0 < 2 by decide) h2
    omega
  generalize 2 ^ a = u at *
  generalize 2 ^ b = v at *
  rw [ea]
  have h5 : u + v ≤ u * v := by
    rcases Nat.le_total u v with h | h
    · have := Nat.mul_le_mul_right v h3
      omega
    · have := Nat.mul_le_mul_left u h4
      omega
  omega
theorem ev_lt {kvs : List (Key × V)} : ∀ {t : VT}, Fine kvs t → (t.ev kvs).natAbs < 2 ^ t.wt
  | .int i, h => h
  | .nm s, ⟨i, e, h⟩ => by
    show (look kvs s).natAbs < 2 ^ 8
    unfold look
    rw [e]
    exact h
  | .op o a b, ⟨ha, hb⟩ => by
    have h1 := ev_lt ha
    have h2 := ev_lt hb
    have p1 := a.wt_pos
    have p2 := b.wt_pos
    have h3 := pow_add_le h1 h2 (by omega) (by omega)
    show (o.ev (a.ev kvs) (b.ev kvs)).natAbs < 2 ^ (a.wt + b.wt)
    cases o with
    | add => show (a.ev kvs + b.ev kvs).natAbs < _; omega
    | sub => show (a.ev kvs - b.ev kvs).natAbs < _; omega
    | mul => exact wide_lt h1 h2
inductive Cp where
  | eq | lt | le
def Cp.tx : Cp → Str
  | .eq => Str.ofString "="
  | .lt => Str.ofString "<"
  | .le => Str.ofString "<="
def Cp.ev : Cp → Int → Int → Bool
  | .eq, a, b => decide (V.int a = V.int b)
  | .lt, a, b => decide (a < b)
  | .le, a, b => decide (a ≤ b)
inductive CT where
  | bl (b : Bool) | no (c : CT) | an (a b : CT) | or (a b : CT) | cp (o : Cp) (a b : VT)
def CT.ht : CT → Nat
  | .bl _ => 0
  | .no c => c.ht + 1
  | .an a b => max a.ht b.ht + 1
  | .or a b => max a.ht b.ht + 1
  | .cp _ _ _ => 0
def RCond (H : Hp) : CT → V → Prop
  | .bl b, v => v = .bl b
  | .no c, v => ∃ t x, v = .ref t ∧ H t = some (.tup [.str (Str.ofString "not"), x]) ∧ RCond H c x
  | .an a b, v => ∃ t x y, v = .ref t ∧ H t = some (.tup [.str (Str.ofString "and"), x, y]) ∧ RCond H a x ∧ RCond H b y
  | .or a b, v => ∃ t x y, v = .ref t ∧ H t = some (.tup [.str (Str.ofString "or"), x, y]) ∧ RCond H a x ∧ RCond H b y
  | .cp o a b, v => ∃ t x y, v = .ref t ∧ H t = some (.tup [.str o.tx, x, y]) ∧ RVal H a x ∧ RVal H b y
theorem RCond.mono {H H' : Hp} (e : Same H H') : ∀ {t : CT} {v : V}, RCond H t v → RCond H' t v
  | .bl _, _, h => h
  | .no _, _, ⟨t, x, e1, e2, ha⟩ => ⟨t, x, e1, e _ _ e2, RCond.mono e ha⟩
  | .an _ _, _, ⟨t, x, y, e1, e2, ha, hb⟩ => ⟨t, x, y, e1, e _ _ e2, RCond.mono e ha, RCond.mono e hb⟩
  | .or _ _, _, ⟨t, x, y, e1, e2, ha, hb⟩ => ⟨t, x, y, e1, e _ _ e2, RCond.mono e ha, RCond.mono e hb⟩
  | .cp _ _ _, _, ⟨t, x, y, e1, e2, ha, hb⟩ => ⟨t, x, y, e1, e _ _ e2, RVal.mono e ha, RVal.mono e hb⟩
def CT.ev (kvs : List (Key × V)) : CT → Bool
  | .bl b => b
  | .no c => !c.ev kvs
  | .an a b => a.ev kvs && b.ev kvs
  | .or a b => a.ev kvs || b.ev kvs
  | .cp o a b => o.ev (a.ev kvs) (b.ev kvs)
/-- every value in it is fine, of height below n and of weight at most m -/
def CFine (kvs : List (Key × V)) (n m : Nat) : CT → Prop
  | .bl _ => True
  | .no c => CFine kvs n m c
  | .an a b => CFine kvs n m a ∧ CFine kvs n m b
  | .or a b => CFine kvs n m a ∧ CFine kvs n m b
  | .cp _ a b => (Fine kvs a ∧ a.ht < n ∧ a.wt ≤ m) ∧ Fine kvs b ∧ b.ht < n ∧ b.wt ≤ m
/-! ### data: what stands in the heap, at any depth -/
mutual
theorem dp_mono {K : PySem.W.Frag} {H H' : Hp} (e : Same H H') : ∀ {v : V} {d : PyData}, Dp K H v d → Dp K H' v d
  | _, .none, .non => .non
  | _, .bool _, .bl b => .bl b
  | _, .int _, .int i => .int i
  | _, .str _, .str x => .str x
  | _, .list _, .lst h a => .lst (e.seq h) (dpAll_mono e a)
  | _, .tuple _, .tup h a => .tup (Same.seqT e h) (dpAll_mono e a)
theorem dpAll_mono {K : PySem.W.Frag} {H H' : Hp} (e : Same H H') : ∀ {vs : List V} {ds : List PyData}, DpAll K H vs ds → DpAll K H' vs ds
  | _, [], .nil => .nil
  | _, _ :: _, .cons h t => .cons (dp_mono e h) (dpAll_mono e t)
end
theorem dpa_len {K : PySem.W.Frag} {H : Hp} : ∀ {ds : List PyData} {vs : List V}, DpAll K H vs ds → vs.length = ds.length
  | [], _, .nil => rfl
  | _ :: _, _, .cons _ t => congrArg (· + 1) (dpa_len t)
theorem dpa_at {K : PySem.W.Frag} {H : Hp} : ∀ {ds : List PyData} {vs : List V}, DpAll K H vs ds → ∀ {i : Nat} {v : V}, vs[i]? = some v → ∃ d, ds[i]? = some d ∧ Dp K H v d
  | [], _, .nil, i, v, h => by simp at h
  | _ :: _, _, .cons a t, 0, v, h => by
    have := Option.some.inj h
    subst this
    exact ⟨_, rfl, a⟩
  | _ :: _, _, .cons a t, i + 1, v, h => dpa_at t (i := i) h
theorem dpa_at' {K : PySem.W.Frag} {H : Hp} : ∀ {ds : List PyData} {vs : List V}, DpAll K H vs ds → ∀ {i : Nat} {d : PyData}, ds[i]? = some d → ∃ v, vs[i]? = some v ∧ Dp K H v d
  | [], _, .nil, i, v, h => by simp at h
  | _ :: _, _, .cons a t, 0, v, h => by
    have := Option.some.inj h
    subst this
    exact ⟨_, rfl, a⟩
  | _ :: _, _, .cons a t, i + 1, v, h => dpa_at' t (i := i) h
theorem dpa_app {K : PySem.W.Frag} {H : Hp} : ∀ {ds es : List PyData} {vs us : List V}, DpAll K H vs ds → DpAll K H us es → DpAll K H (vs ++ us) (ds ++ es)
  | [], _, _, _, .nil, b => b
  | _ :: _, _, _, _, .cons a t, b => .cons a (dpa_app t b)
theorem dpa_strs {K : PySem.W.Frag} {H : Hp} : ∀ ss : List Str, DpAll K H (ss.map V.str) (ss.map PyData.str)
  | [] => .nil
  | s :: r => .cons (.str s) (dpa_strs r)
theorem dpa_ints {K : PySem.W.Frag} {H : Hp} : ∀ ss : List Int, DpAll K H (ss.map V.int) (ss.map PyData.int)
  | [] => .nil
  | s :: r => .cons (.int s) (dpa_ints r)
/-- a tuple of data -/
theorem dp_tup {K : PySem.W.Frag} {H : Hp} {v : V} {ds : List PyData} (h : Dp K H v (.tuple ds)) : ∃ a xs, v = .ref a ∧ SqT K H a xs ∧ DpAll K H xs ds := by
  cases h with
  | tup hs ha => exact ⟨_, _, rfl, hs, ha⟩
theorem dp_lst {K : PySem.W.Frag} {H : Hp} {v : V} {ds : List PyData} (h : Dp K H v (.list ds)) : ∃ a xs, v = .ref a ∧ SqL K H a xs ∧ DpAll K H xs ds := by
  cases h with
  | lst hs ha => exact ⟨_, _, rfl, hs, ha⟩
theorem dp_str {K : PySem.W.Frag} {H : Hp} {v : V} {s : Str} (h : Dp K H v (.str s)) : v = .str s := by cases h; rfl
theorem dp_int {K : PySem.W.Frag} {H : Hp} {v : V} {s : Int} (h : Dp K H v (.int s)) : v = .int s := by cases h; rfl
theorem dpa_cons {K : PySem.W.Frag} {H : Hp} {vs : List V} {d : PyData} {ds : List PyData} (h : DpAll K H vs (d :: ds)) : ∃ v r, vs = v :: r ∧ Dp K H v d ∧ DpAll K H r ds := by
  cases h with
  | cons a t => exact ⟨_, _, rfl, a, t⟩
theorem dpa_nil {K : PySem.W.Frag} {H : Hp} {vs : List V} (h : DpAll K H vs []) : vs = [] := by cases h; rfl
theorem dpa_strsE {K : PySem.W.Frag} {H : Hp} : ∀ {ss : List Str} {vs : List V}, DpAll K H vs (ss.map PyData.str) → vs = ss.map V.str
  | [], _, h => dpa_nil h
  | s :: r, _, h => by
    obtain ⟨v, q, rfl, a, t⟩ := dpa_cons h
    rw [dp_str a, dpa_strsE t]
    rfl
/-! ### data that can be shown and compared -/
mutual
def nice : PyData → Bool
  | .none | .bool _ => true
  | .int i => decide (i.natAbs < 10 ^ 7)
  | .str s => (s.cps.toList.all fun c => decide (c < 128)) && decide (s.length ≤ 20)
  | .list xs | .tuple xs => niceAll xs
  | .dict _ => false
def niceAll : List PyData → Bool
  | [] => true
  | x :: xs => nice x && niceAll xs
end
mutual
def cells : PyData → Nat
  | .list xs | .tuple xs => cellsAll xs + 1
  | .none | .bool _ | .int _ | .str _ | .dict _ => 1
def cellsAll : List PyData → Nat
  | [] => 0
  | x :: xs => cells x + cellsAll xs
end
mutual
theorem nice_lay : ∀ d : PyData, nice d = true → d.canLay0 = true
  | .none, _ => rfl
  | .bool _, _ => rfl
  | .int _, _ => rfl
  | .str s, h => by
    simp only [nice, Bool.and_eq_true, List.all_eq_true, decide_eq_true_eq] at h
    show (s.cps.all fun c => decide (c < 0x110000)) = true
    rw [← Array.all_toList, List.all_eq_true]
    intro c hc
    have := h.1 c hc
    exact decide_eq_true (by omega)
  | .list xs, h => by
    show PyData.canLayAll0 xs = true
    exact nice_layAll xs h
  | .tuple xs, h => by
    show PyData.canLayAll0 xs = true
    exact nice_layAll xs h
  | .dict _, h => nomatch h
theorem nice_layAll : ∀ xs : List PyData, niceAll xs = true → PyData.canLayAll0 xs = true
  | [], _ => rfl
  | x :: xs, h => by
    have h' : nice x = true ∧ niceAll xs = true := by simpa only [niceAll, Bool.and_eq_true] using h
    show (x.canLay0 && PyData.canLayAll0 xs) = true
    rw [nice_lay x h'.1, nice_layAll xs h'.2]
    rfl
end
mutual
theorem nice_short : ∀ d : PyData, nice d = true → d.leavesShort 8 = true ∧ d.showable = true
  | .none, _ => ⟨rfl, rfl⟩
  | .bool _, _ => ⟨rfl, rfl⟩
  | .int i, h => by
    have h1 : i.natAbs < 10 ^ 7 := by simpa only [nice, decide_eq_true_eq] using h
    refine ⟨?_, ?_⟩
    · show decide ((Str.ofString (toString i)).length ≤ 8) = true
      have := int_text_length_le10 (a := i) (k := 7) (by decide) h1
      refine decide_eq_true ?_
      rw [PySem.ofString_length]
      exact this
    · show decide (i.natAbs.log2 < 1920) = true
      refine decide_eq_true ?_
      have h2 : i.natAbs.log2 ≤ i.natAbs := Nat.log2_le_self _
      by_cases h0 : i.natAbs = 0
      · rw [h0]; decide
      · rw [Nat.log2_lt h0]
        exact Nat.lt_of_lt_of_le h1 (by decide +kernel)
  | .str s, h => by
    simp only [nice, Bool.and_eq_true, List.all_eq_true, decide_eq_true_eq] at h
    refine ⟨?_, rfl⟩
    show (s.cps.toList.all fun c => decide (c < 16 ^ 8)) = true
    rw [List.all_eq_true]
    intro c hc
    have := h.1 c hc
    exact decide_eq_true (Nat.lt_of_lt_of_le this (by decide))
  | .list xs, h => nice_shortAll xs h
  | .tuple xs, h => nice_shortAll xs h
  | .dict _, h => nomatch h
theorem nice_shortAll : ∀ xs : List PyData, niceAll xs = true → PyData.leavesShortAll 8 xs = true ∧ PyData.showableAll xs = true
  | [], _ => ⟨rfl, rfl⟩
  | x :: xs, h => by
    have h' : nice x = true ∧ niceAll xs = true := by simpa only [niceAll, Bool.and_eq_true] using h
    obtain ⟨a1, a2⟩ := nice_short x h'.1
    obtain ⟨b1, b2⟩ := nice_shortAll xs h'.2
    refine ⟨?_, ?_⟩
    · show (x.leavesShort 8 && PyData.leavesShortAll 8 xs) = true
      rw [a1, b1]; rfl
    · show (x.showable && PyData.showableAll xs) = true
      rw [a2, b2]; rfl
end
mutual
theorem nice_bulk : ∀ d : PyData, nice d = true → d.bulk + 1 ≤ 21 * cells d
  | .none, _ => by decide
  | .bool _, _ => by show 0 + 1 ≤ 21 * 1; decide
  | .int _, _ => by show 0 + 1 ≤ 21 * 1; decide
  | .str s, h => by
    simp only [nice, Bool.and_eq_true, List.all_eq_true, decide_eq_true_eq] at h
    have : s.cps.size ≤ 20 := h.2
    show s.cps.size + 1 ≤ 21 * 1
    omega
  | .list xs, h => by
    have := nice_bulkAll xs h
    show PyData.bulkAll xs + 1 ≤ 21 * (cellsAll xs + 1)
    omega
  | .tuple xs, h => by
    have := nice_bulkAll xs h
    show PyData.bulkAll xs + 1 ≤ 21 * (cellsAll xs + 1)
    omega
  | .dict _, h => nomatch h
theorem nice_bulkAll : ∀ xs : List PyData, niceAll xs = true → PyData.bulkAll xs ≤ 21 * cellsAll xs
  | [], _ => by decide
  | x :: xs, h => by
    have h' : nice x = true ∧ niceAll xs = true := by simpa only [niceAll, Bool.and_eq_true] using h
    have h1 := nice_bulk x h'.1
    have h2 := nice_bulkAll xs h'.2
    show x.bulk + 1 + PyData.bulkAll xs ≤ 21 * (cells x + cellsAll xs)
    omega
end
structure NcD (d : PyData) (c m : Nat) : Prop where
  ni : nice d = true
  ce : cells d ≤ c
  de : d.depth ≤ m
structure NcL (ds : List PyData) (c m : Nat) : Prop where
  ni : niceAll ds = true
  ce : cellsAll ds ≤ c
  de : PyData.depthAll ds ≤ m
theorem NcD.mono {d : PyData} {c m c' m' : Nat} (h : NcD d c m) (h1 : c ≤ c') (h2 : m ≤ m') : NcD d c' m' := ⟨h.ni, Nat.le_trans h.ce h1, Nat.le_trans h.de h2⟩
theorem NcL.mono {d : List PyData} {c m c' m' : Nat} (h : NcL d c m) (h1 : c ≤ c') (h2 : m ≤ m') : NcL d c' m' := ⟨h.ni, Nat.le_trans h.ce h1, Nat.le_trans h.de h2⟩
theorem NcL.nil {c m : Nat} : NcL [] c m := ⟨rfl, Nat.zero_le _, Nat.zero_le _⟩
theorem NcL.cons {d : PyData} {ds : List PyData} {c1 c2 m : Nat} (h : NcD d c1 m) (t : NcL ds c2 m) : NcL (d :: ds) (c1 + c2) m := by
  have h1 := h.ce
  have h2 := t.ce
  have h3 := h.de
  have h4 := t.de
  refine ⟨?_, ?_, ?_⟩
  · show (nice d && niceAll ds) = true
    rw [h.ni, t.ni]; rfl
  · show cells d + cellsAll ds ≤ c1 + c2
    omega
  · show max d.depth (PyData.depthAll ds) ≤ m
    omega
theorem NcL.tup {ds : List PyData} {c m : Nat} (h : NcL ds c m) : NcD (.tuple ds) (c + 1) (m + 1) := ⟨h.ni, Nat.succ_le_succ h.ce, Nat.succ_le_succ h.de⟩
theorem NcL.lst {ds : List PyData} {c m : Nat} (h : NcL ds c m) : NcD (.list ds) (c + 1) (m + 1) := ⟨h.ni, Nat.succ_le_succ h.ce, Nat.succ_le_succ h.de⟩
theorem NcD.str {s : Str} {m : Nat} (h : nice (.str s) = true) : NcD (.str s) 1 m := ⟨h, Nat.le_refl _, Nat.zero_le _⟩
theorem NcD.int {i : Int} {m : Nat} (h : i.natAbs < 10 ^ 7) : NcD (.int i) 1 m := ⟨decide_eq_true h, Nat.le_refl _, Nat.zero_le _⟩
theorem NcD.shaped {d : PyData} {c m : Nat} (h : NcD d c m) (hm : m ≤ 64) : SeqAt.shaped d = true := by
  show (d.canLay0 && decide (d.depth ≤ 64)) = true
  have h1 := h.de
  rw [nice_lay d h.ni, decide_eq_true (by omega)]
  rfl
theorem NcD.eqv {d : PyData} {c m : Nat} (h : NcD d c m) : PyData.eqv d d = true := SeqAt.eqv_refl d (nice_lay d h.ni)
structure Shw (d : PyData) : Prop where
  sh : d.showable = true
  nd : d.hasDict = false
  de : d.depth ≤ 60
  ln : d.shown.length ≤ sizeLine
theorem NcD.shw {d : PyData} {c m : Nat} (h : NcD d c m) (hc : c ≤ 40000) (hm : m ≤ 60) : Shw d := by
  have h1 := nice_short d h.ni
  have h2 := nice_bulk d h.ni
  have h3 := h.de
  have h4 := h.ce
  refine ⟨h1.2, PyData.hasDict_of_canLay d (nice_lay d h.ni), by omega, PyData.shown_fits_bulk (by decide) (by decide) h1.1 ?_⟩
  rw [show (2 : Nat) ^ 20 = 1048576 from rfl]
  omega
/-! ### repr of data, and a law's call from outside all frames (there no guard is up) -/
section
variable {X : Cx}
def rRepr (K : PySem.W.Frag) : List V → Hp → VK → Prop := fun xs H Q => ∃ (a : Addr) (d : PyData), xs = [.ref a] ∧ Dp K H (.ref a) d ∧ d.showable = true ∧ d.hasDict = false ∧ d.depth ≤ 60 ∧ d.shown.length ≤ sizeLine ∧ Q (.str d.shown) H
theorem cRepr (K : PySem.W.Frag) (hg : X.A.guards = some []) (hu : X.A.units + 64 < cLine) (hK : X.K = K := by rfl) : CallR X (.builtin "repr") (rRepr K) := by
  subst hK
  rintro pins s σ H xs us Q I r ⟨a, d, rfl, hd, hs, hn, hp, hz, q⟩
  obtain ⟨u, rfl, ru⟩ := vals1 r
  cases ru
  obtain ⟨as, hr⟩ := Dp.reads I d _ _ hd rfl
  exact PySem.repr_of_reads' hr hs (fun z => by rw [hn] at z; cases z) hg (by omega) (fun _ _ e => e) (fun h' t tk kp => ⟨.str d.shown, H, I.kept kp, ⟨t, rfl⟩, q⟩) hz
end
/-- the law's def keeps sp where it is called with the script, from outside -/
def TopOk (P : Program) (w : World) (K : PySem.W.Frag) (mg : Str → Option Value) (base : Heap) (f : Addr) (sp : Sp) : Prop :=
  ∀ (s : Shared) (H : Hp) (a : Addr) (Q : VK), Env0 P w K mg base callerA [] s H → sp [.ref a] H Q E0 → codeAny (model P w) callerA (.call (.ref f) ⟨[.ref a], []⟩) (CR CX0 [] P w H s Q E0) s
theorem top_ok {P : Program} {w : World} {K : PySem.W.Frag} {mg : Str → Option Value} {base : Heap} {x : Str} {st : Stmt} {f : Addr} {fd : FuncData} {N : List Str} {k : Nat} {sp : Sp} (F : Fun K x x st f fd) (S : FnScope N ["script"] (defScope st)) (hroom : Room (k + 1) callerA)
    (bind : ∀ (s : Shared) (v : Value), BindsTo s fd ⟨[v], []⟩ [("script", v)])
    (body : ∀ (cdv : Value) (s : Shared) (H : Hp) (a : Addr) (Q : VK), Room k (callerA.deeper (envOfC x (defScope st) s.heap.objs.size f cdv)) → sp [.ref a] H Q E0 →
      ∃ t, PSs (cxOf CX0 P w K mg base N x (defScope st) f cdv callerA [] s H E0).nox (defBody st) t ∧ t { nx := fun _ H' => Q .non H', rt := Q } (start N [.ref a]) H) : TopOk P w K mg base f sp := by
  obtain ⟨c1, c2, c3, c4, c5, c6, cd, c8, c9, rfl, look, code⟩ := F.ex
  intro s H a Q env want
  have inS : K.In s.heap := PySem.W.Frag.In.keeps env.mod.kin (fun b o z => (env.bs b o z).1)
  have room := hroom.deeper (envOfC x (defScope st) s.heap.objs.size f cd)
  obtain ⟨t, good, read⟩ := body cd s H a Q room want
  refine codeAny_call_function (by decide) (inS f _ look) rfl S.co S.gen rfl (PySem.W.codeRec_of inS code) (bind s _ _ _ _ _ ?_)
  have names : ∀ y ∈ [(("script" : Str), Value.ref a)], (defScope st).names.lookup y.1 = some .local ∨ ((defScope st).names.lookup y.1 = some .cell ∧ ((cellsFrom (s.heap.objs.size + 1) (defScope st).names []).lookup y.1).isSome = true) := by
    intro y hy
    rw [List.mem_singleton.mp hy]
    exact (S.par "script" List.mem_cons_self).imp id fun z => ⟨z, PySem.W.cellsFrom_some _ _ _ (.inl z)⟩
  refine wpAny_newFunctionEnv_cells S.kind names ?_
  rintro _ rfl s1 made
  have few : s.heap.NoLimit := Heap.NoLimit.keeps env.mod.nolimit (fun b o z => (env.bs b o z).1)
  refine ⟨Heap.NoLimit.keeps few made.toInCall.keep, codeAny_func ?_⟩
  have inv := inv_start (CX := CX0) (vs := [V.ref a]) (us := [Value.ref a]) (E := E0) S hroom.hd env rfl (.cons rfl .nil) made
  refine wpAny_mono (good.nox.run [] s1 _ H _ inv read) ?_ (fun _ _ z => z)
  intro fl s2 out
  cases fl with
  | brk => exact False.elim out.choose_spec.choose_spec.2
  | cont => exact False.elim out.choose_spec.choose_spec.2
  | next =>
    obtain ⟨σ2, H2, inv2, q2⟩ := out
    exact ⟨.non, H2, inv2.os, inv2.bare, inv2.base, inv2.hok, rfl, q2⟩
  | ret u =>
    obtain ⟨v, σ2, H2, inv2, rel, q2⟩ := out
    exact ⟨v, H2, inv2.os, inv2.bare, inv2.base, inv2.hok, rel, q2⟩
/-- what the object of the script is taken for: the locked list, unless it is an object of the module -/
def hpOf (K : PySem.W.Frag) (a : Addr) (o : Obj) (ns : List Int) : Hp := fun b => if b = a ∧ K.lookup a = none then some (.frz o (.lst (ns.map V.int))) else none
theorem hp_none {K : PySem.W.Frag} {a b : Addr} {o : Obj} {ns : List Int} (h : b ≠ a) : hpOf K a o ns b = none := if_neg fun z => h z.1
theorem hp_ne {K : PySem.W.Frag} {a b : Addr} {o : Obj} {ns : List Int} {u : HO} (h : hpOf K a o ns b = some u) : b = a ∧ K.lookup a = none ∧ u = .frz o (.lst (ns.map V.int)) := by
  unfold hpOf at h
  split at h
  · rename_i c
    exact ⟨c.1, c.2, (Option.some.inj h).symm⟩
  · cases h
theorem ints_vals : ∀ {vs : List Value} {ns : List Int}, IntsAre vs ns → Vals (ns.map V.int) vs := fun h => vals_ints h
theorem top_call {P : Program} {w : World} {K : PySem.W.Frag} {mg mb : Str → Option Value} {fa a : Addr} {sp : Sp} {s1 : Shared} {vs : List Value} {ns : List Int} (KX : K.In s1.heap) (hns : s1.heap.Ns mainGlobals mg) (hb : s1.heap.Ns builtinsNs mb) (hbb : ∀ x : Str, x ≠ "__name__" → mb x = bootBuiltins x)
    (hlim : s1.heap.NoLimit) (hg : s1.gens = #[]) (ha : s1.heap.get? a = some { cls := .type "list", data := .seq vs.toArray }) (hi : IntsAre vs ns) (hl : ns.length ≤ sizeLine) (F : ∀ base : Heap, K.In base → base.Ns mainGlobals mg → TopOk P w K mg base fa sp)
    (hsp : ∀ H : Hp, SqL K H a (ns.map V.int) → sp [.ref a] H (fun v _ => v = .bl true) E0) :
    codeAny (model P w) callerA (.call (.ref fa) ⟨[.ref a], []⟩) (fun r s' => r = .ok (.ret (.bool true)) ∧ OldK s1.heap s'.heap ∧ s'.os = s1.os ∧ AllBare s'.gens) s1 := by
  have rel := vals_ints hi
  have size := hi.length
  generalize hob : ({ cls := .type "list", data := .seq vs.toArray } : Obj) = ob at ha
  generalize hH : hpOf K a ob ns = H
  have known : ∀ {b : Addr} {u : HO}, H b = some u → b = a ∧ K.lookup a = none ∧ u = .frz ob (.lst (ns.map V.int)) := fun z => hp_ne (hH ▸ z)
  have free : ∀ {b : Addr}, b ≠ a → H b = none := fun z => hH ▸ hp_none z
  -- what is a dict, or the module's own, is not hidden
  have dictFree : ∀ {b : Addr} {o : Obj} {es : Array DictEntry} {ep : Nat}, s1.heap.get? b = some o → o.data = .dict es ep → H b = none := by
    intro b o es ep e d
    refine free fun z => ?_
    rw [z, ha] at e
    cases e
    rw [← hob] at d
    cases d
  have kFree : ∀ {b : Addr} {o : Obj}, K.lookup b = some o → H b = none := by
    intro b o e
    cases h : H b with
    | none => rfl
    | some u =>
      obtain ⟨z1, z2, _⟩ := known h
      rw [z1, z2] at e
      cases e
  have seen : ∀ {b : Addr} {o : Obj}, s1.heap.get? b = some o → H b = none → (hidT s1.heap H).get? b = some o := fun e n => hidT_get e n
  have kIn : K.In (hidT s1.heap H) := fun b o e => seen (KX b o e) (kFree e)
  have spaces : ∀ {b : Addr} {m : Str → Option Value}, s1.heap.Ns b m → (hidT s1.heap H).Ns b m := by
    rintro b m ⟨o, es, ep, e, d, r⟩
    exact ⟨o, es, ep, seen e (dictFree e d), d, r⟩
  have limit : (hidT s1.heap H).NoLimit := by
    obtain ⟨mc, l1, l2⟩ := hlim
    exact ⟨mc, spaces l1, l2⟩
  have ok : HOk P w H s1.heap := by
    intro b u z
    obtain ⟨rfl, _, rfl⟩ := known z
    subst hob
    exact ⟨ha, by rw [List.length_map]; exact hl, vs, _, rel, ha⟩
  have script : SqL K H a (ns.map V.int) := by
    cases h : K.lookup a with
    | none => exact .inl (.inr ⟨ob, by rw [← hH]; exact if_pos ⟨rfl, h⟩⟩)
    | some o =>
      have e := KX a o h
      rw [ha] at e
      cases e
      subst hob
      exact .inr ⟨_, vs.toArray, _, h, rfl, rfl, rfl, by rw [List.size_toArray, size]; exact hl, by rw [List.toList_toArray]; exact rel⟩
  have env : Env0 P w K mg (hidT s1.heap H) callerA [] s1 H := {
    frames := rfl
    mod := ⟨kIn, spaces hns, ⟨mb, spaces hb, hbb⟩, limit⟩
    bs := fun _ _ z => of_hidT z
    bsz := Nat.le_of_eq (hidT_size _ _)
    funs := trivial
    frf := fun _ z => nomatch z
    hok := ok
    bare := .of_eq hg }
  refine codeAny_mono (F _ kIn (spaces hns) s1 H a _ env (hsp H script)) ?_
  intro r s2 out
  match r, out with
  | .error _, out => exact False.elim out
  | .ok .next, out => exact False.elim out
  | .ok .brk, out => exact False.elim out
  | .ok .cont, out => exact False.elim out
  | .ok (.ret u), ⟨v, H2, os, bare, un, ok2, ru, qv⟩ =>
    have qv' : v = .bl true := qv
    subst qv'
    have ru' : u = Value.bool true := ru
    subst ru'
    refine ⟨rfl, OldK.of_keep ?_, os, bare⟩
    intro b o e
    cases h : H b with
    | none => exact un.keep b o e h (fun z => nomatch z) (fun z => nomatch z)
    | some x =>
      obtain ⟨rfl, _, rfl⟩ := known h
      have later := (ok2 b _ (un.frzs b ob _ h)).1
      rw [ha] at e
      cases e
      exact later
theorem walk_top {l : PySem.W.OpenLaw} {n : Nat} {q : Program} {loose : List Str} {XP : (Str → Option Value) → Heap → Prop} {YP : World → Heap → Prop} {d : DefRec} {K : Params → PySem.W.Frag} {sp : World → Sp} (hn : l.most = some n) (hn2 : n ≤ sizeLine) (hdf : d.params.defaults = [])
    (hY : ∀ (w : World) (h : Heap), YP w h → (K w.params).In h)
    (F : ∀ (w : World) (mg : Str → Option Value) (fa : Addr) (h : Heap), (K w.params).In h → h.Ns mainGlobals mg → mg d.name = some (.ref fa) → ∀ base : Heap, (K w.params).In base → base.Ns mainGlobals mg → TopOk l.prog w (K w.params) mg base fa (sp w))
    (hsp : ∀ (w : World) (H : Hp) (a : Addr) (ns : List Int), ns.length ≤ n → SqL (K w.params) H a (ns.map V.int) → sp w [.ref a] H (fun v _ => v = .bl true) E0) :
    PySem.W.WalkO q loose XP YP l.row.toRowW d [] (fun f vs => PySem.call f vs) := by
  refine Att.attach_call hn hdf ?_
  intro w s0 s1 mg mb fa o pm cd doc a vs ns G Y ho hd hcd hmg hobj hints hlen hg
  exact top_call (hY w _ Y) G.T.g G.T.b G.T.builtins G.T.nolimit hg hobj hints (Nat.le_trans hlen hn2) (F w mg fa _ (hY w _ Y) G.T.g hmg) fun H hS => hsp w H a ns hlen hS
theorem orM {A B : TT} {t u r : TS} {D : Ends} {σ : L2.St} {H : Hp} (h : Ans A σ H false) (hb : tSeq (tIfS B t u) r D σ H) : tSeq (tIfS (tOr A B) t u) r D σ H := h _ (iteF hb)
theorem neM (s : Str) : (!decide (V.str s = V.str s)) = false := by
  rw [decide_eq_true rfl]
  rfl
theorem nbM (b : Bool) : (!decide (V.bl b = V.bl b)) = false := by
  rw [decide_eq_true rfl]
  rfl
theorem nvM {d : PyData} (e : PyData.eqv d d = true) : (!PyData.eqv d d) = false := by
  rw [e]
  rfl
theorem ansF {t : TT} {σ : L2.St} {H : Hp} {Q : Bool → Hp → Prop} (h : Ans t σ H false) (q : Q false H) : t σ H Q := h _ q
theorem orA {A B : TT} {σ : L2.St} {H : Hp} {Q : Bool → Hp → Prop} (h : Ans A σ H false) (q : B σ H Q) : tOr A B σ H Q := h _ (iteF q)
/-! ### situations -/
/-- xs[i] read before it is stored anew -/
def rGetL (K : PySem.W.Frag) : R2 := fun x y H Q => ∃ p xs i v, x = .ref p ∧ y = .int i ∧ 0 ≤ i ∧ SqL K H p xs ∧ atI xs i = some v ∧ Q v H
theorem get_list {X : Cx} : PGet X (rGetL X.K) := by
  intro pins s σ H x y v u Q I rx ry h
  obtain ⟨p, xs, i, z, rfl, rfl, h0, hq, he, q⟩ := h
  cases rx
  obtain ⟨t, rfl⟩ := ry
  obtain ⟨its, r, pl, hz⟩ := I.list hq
  obtain ⟨j, h1, h2, h3, h4, h5⟩ := atI_get he
  obtain ⟨w, ew, rw'⟩ := r.get h2
  have hl := r.length
  have hn := line63
  have hj : i.toNat = j := by
    rw [seqIndex_of h0 h5] at h1
    exact Option.some.inj h1
  exact wpAny_getItem_list pl.isList h0 (by omega) (by rw [hj]; simpa using ew) ⟨z, H, I, rw', q⟩
theorem getL {X : Cx} (K : PySem.W.Frag) (h : X.K = K := by rfl) : PGet X (rGetL K) := h ▸ get_list
/-- a situation: a pair of a number and a list of numbers -/
def Sit (K : PySem.W.Frag) (H : Hp) (v : V) (s : Int) (ns : List Int) : Prop := ∃ a ca, v = .ref a ∧ SqT K H a [.int s, .ref ca] ∧ SqL K H ca (ns.map V.int)
theorem Same.sit {K : PySem.W.Frag} {H H' : Hp} (e : Same H H') {v : V} {s : Int} {ns : List Int} (h : Sit K H v s ns) : Sit K H' v s ns := by
  obtain ⟨a, ca, e1, h1, h2⟩ := h
  exact ⟨a, ca, e1, Same.seqT e h1, e.seq h2⟩
def sitD (s : Int) (ns : List Int) : PyData := .tuple [.int s, .list (ns.map PyData.int)]
theorem sit_dp {K : PySem.W.Frag} {H : Hp} {v : V} {s : Int} {ns : List Int} (h : Sit K H v s ns) : Dp K H v (sitD s ns) := by
  obtain ⟨a, ca, rfl, h1, h2⟩ := h
  exact .tup h1 (.cons (.int _) (.cons (.lst h2 (dpa_ints ns)) .nil))
theorem dpa_intsE {K : PySem.W.Frag} {H : Hp} : ∀ {ns : List Int} {vs : List V}, DpAll K H vs (ns.map PyData.int) → vs = ns.map V.int
  | [], _, h => dpa_nil h
  | n :: ns, vs, h => by
    obtain ⟨v, r, rfl, h1, h2⟩ := dpa_cons h
    rw [dp_int h1, dpa_intsE h2]
    rfl
theorem dp_sit {K : PySem.W.Frag} {H : Hp} {v : V} {s : Int} {ns : List Int} (h : Dp K H v (sitD s ns)) : Sit K H v s ns := by
  obtain ⟨a, xs, rfl, h1, h2⟩ := dp_tup h
  obtain ⟨v1, r1, rfl, d1, h2⟩ := dpa_cons h2
  obtain ⟨v2, r2, rfl, d2, h2⟩ := dpa_cons h2
  obtain rfl := dpa_nil h2
  obtain ⟨ca, cxs, rfl, h3, h4⟩ := dp_lst d2
  rw [dp_int d1] at h1
  rw [dpa_intsE h4] at h3
  exact ⟨a, ca, rfl, h1, h3⟩
/-- at least as many everywhere -/
def geAll : List Int → List Int → Bool
  | m :: ms, n :: ns => decide (n ≤ m) && geAll ms ns
  | _, _ => true
theorem geAll_refl : ∀ ms : List Int, geAll ms ms = true
  | [] => rfl
  | m :: ms => by
    show (decide (m ≤ m) && geAll ms ms) = true
    rw [decide_eq_true (Int.le_refl m), geAll_refl ms]
    rfl
theorem geAll_take {ms ns : List Int} {m n : Int} : ∀ {i : Nat}, ms[i]? = some m → ns[i]? = some n → geAll (ms.take (i + 1)) (ns.take (i + 1)) = (geAll (ms.take i) (ns.take i) && decide (n ≤ m)) := by
  induction ms generalizing ns with
  | nil => intro i h; simp at h
  | cons a ms ih =>
    intro i h1 h2
    cases ns with
    | nil => simp at h2
    | cons b ns =>
      cases i with
      | zero =>
        cases h1
        cases h2
        show (decide (n ≤ m) && geAll (ms.take 0) (ns.take 0)) = (true && _)
        rw [List.take_zero, List.take_zero]
        show (decide (n ≤ m) && true) = _
        rw [Bool.and_true, Bool.true_and]
      | succ i =>
        show (decide (b ≤ a) && geAll (ms.take (i + 1)) (ns.take (i + 1))) = ((decide (b ≤ a) && geAll (ms.take i) (ns.take i)) && decide (n ≤ m))
        rw [ih h1 h2, Bool.and_assoc]
theorem geAll_false {ms ns : List Int} : ∀ {i : Nat}, geAll (ms.take i) (ns.take i) = false → geAll ms ns = false := by
  induction ms generalizing ns with
  | nil => intro i h; rw [List.take_nil] at h; cases h
  | cons a ms ih =>
    intro i h
    cases ns with
    | nil => rw [List.take_nil] at h; cases i <;> cases h
    | cons b ns =>
      cases i with
      | zero => cases h
      | succ i =>
        have h' : (decide (b ≤ a) && geAll (ms.take i) (ns.take i)) = false := h
        show (decide (b ≤ a) && geAll ms ns) = false
        cases hb : decide (b ≤ a) with
        | false => rfl
        | true =>
          rw [hb, Bool.true_and] at h'
          rw [ih h']
          rfl
/-- the first covers the second -/
def covB (s : Int) (ms : List Int) (t : Int) (ns : List Int) : Bool := decide (s = t) && geAll ms ns
theorem covB_refl (s : Int) (ms : List Int) : covB s ms s ms = true := by
  unfold covB
  rw [decide_eq_true (show s = s from rfl), geAll_refl]
  rfl
theorem ixN_nat {n j : Nat} (hj : j < n) : ixN n (j : Int) = some j := by
  unfold ixN
  rw [if_pos (by omega), if_pos (by omega)]
  simp
theorem gd {ds : List Int} {i : Nat} (h : i < ds.length) : ds[i]? = some (ds.getD i 0) := by
  rw [List.getD_eq_getElem?_getD, List.getElem?_eq_getElem h]
  rfl
theorem gd_mem {ds : List Int} {i : Nat} (h : i < ds.length) : ds.getD i 0 ∈ ds := List.mem_of_getElem? (gd h)
theorem at_gd {ds : List Int} {i : Int} {j : Nat} (e : i = (j : Int)) (h : j < ds.length) : atI (ds.map V.int) i = some (.int (ds.getD j 0)) := by
  rw [e]
  exact atI_nat (get_map (gd h))
theorem mod_in (z : Int) {m : Int} (h : 0 < m) : 0 ≤ z % m ∧ z % m < m := ⟨Int.emod_nonneg _ (by omega), Int.emod_lt_of_pos _ h⟩
theorem cut_ints {ds : List Int} {a n : Nat} {i j : Int} (h : a + n ≤ ds.length) (hi : i = (a : Int)) (hj : j = ((a + n : Nat) : Int)) : cutV (ds.map V.int) (some i) (some j) = ((ds.drop a).take n).map V.int := by
  subst hi
  subst hj
  unfold cutV
  rw [HT.sIx_nat, HT.sIx_nat, List.length_map, Nat.min_eq_left (show a ≤ ds.length by omega), Nat.min_eq_left h, List.map_take, List.map_drop, Nat.add_sub_cancel_left]
theorem rep_one (n : Nat) (x : V) : (List.replicate n [x]).flatten = List.replicate n x := by
  induction n with
  | zero => rfl
  | succ n ih =>
    show x :: (List.replicate n [x]).flatten = x :: List.replicate n x
    rw [ih]
theorem rep_map (n : Nat) (x : Int) : List.replicate n (V.int x) = (List.replicate n x).map V.int := by rw [List.map_replicate]
theorem int_eqE (a b : Int) : decide (V.int a = V.int b) = decide (a = b) := by
  by_cases h : a = b
  · rw [decide_eq_true h, h, decide_eq_true rfl]
  · rw [decide_eq_false h, decide_eq_false fun z => h (by cases z; rfl)]
/-- the heap without B -/
def Ho (B : Addr) (H : Hp) : Hp := fun x => if x = B then none else H x
theorem ho_out {B : Addr} {H : Hp} : Same (Ho B H) H := fun b x e => by
  unfold Ho at e
  split at e
  · cases e
  · exact e
theorem ho_same {B : Addr} {H H' : Hp} (s : Same H H') : Same (Ho B H) (Ho B H') := fun b x e => by
  unfold Ho at e ⊢
  split at e
  · cases e
  · rename_i h; rw [if_neg h]; exact s _ _ e
theorem ho_mut {B : Addr} {H : Hp} {u : HO} : Same (Ho B H) (Ho B (upd H B u)) := fun b x e => by
  unfold Ho at e ⊢
  split at e
  · cases e
  · rename_i h; rw [if_neg h, upd_ne h]; exact e
theorem ho_first {B : Addr} {H : Hp} {u : HO} (nB : H B = none) : Same H (Ho B (upd H B u)) := fun b x e => by
  have h : b ≠ B := ne_of_none e nB
  show (if b = B then none else upd H B u b) = _
  rw [if_neg h, upd_ne h]
  exact e
theorem dp_newT {K : PySem.W.Frag} {H : Hp} {p : Addr} {xs : List V} {ds : List PyData} (np : H p = none) (h : DpAll K H xs ds) : Dp K (upd H p (.tup xs)) (.ref p) (.tuple ds) := .tup (st upd_same) (dpAll_mono (same_new np) h)
theorem dp_newL {K : PySem.W.Frag} {H : Hp} {p : Addr} {xs : List V} {ds : List PyData} (np : H p = none) (h : DpAll K H xs ds) : Dp K (upd H p (.lst xs)) (.ref p) (.list ds) := .lst (sq upd_same) (dpAll_mono (same_new np) h)
theorem dpo_newT {K : PySem.W.Frag} {H : Hp} {B p : Addr} {o : HO} {xs : List V} {ds : List PyData} (eB : H B = some o) (np : H p = none) (h : DpAll K (Ho B H) xs ds) : Dp K (Ho B (upd H p (.tup xs))) (.ref p) (.tuple ds) := by
  have hne : p ≠ B := fun e => by rw [e, eB] at np; cases np
  refine .tup (st ?_) (dpAll_mono (ho_same (same_new np)) h)
  show (if p = B then none else upd H p (.tup xs) p) = _
  rw [if_neg hne]
  exact upd_same
theorem dpo_newL {K : PySem.W.Frag} {H : Hp} {B p : Addr} {o : HO} {xs : List V} {ds : List PyData} (eB : H B = some o) (np : H p = none) (h : DpAll K (Ho B H) xs ds) : Dp K (Ho B (upd H p (.lst xs))) (.ref p) (.list ds) := by
  have hne : p ≠ B := fun e => by rw [e, eB] at np; cases np
  refine .lst (sq ?_) (dpAll_mono (ho_same (same_new np)) h)
  show (if p = B then none else upd H p (.lst xs) p) = _
  rw [if_neg hne]
  exact upd_same
/-! ### sorted of situations -/
def encS (p : V × Int × List Int) : PyData := sitD p.2.1 p.2.2
abbrev leS : V × Int × List Int → V × Int × List Int → Bool := PySem.W.dataLe false encS
def rSortS (K : PySem.W.Frag) : List V → Hp → VK → Prop := fun vs H Q => ∃ (a : Addr) (ps : List (V × Int × List Int)), vs = [.ref a] ∧ SqL K H a (ps.map (·.1)) ∧ (∀ p ∈ ps, Sit K H p.1 p.2.1 p.2.2) ∧ ∀ q, H q = none → Q (.ref q) (upd H q (.lst ((ps.mergeSort leS).map (·.1))))
theorem each_of_vals {H : Heap} : ∀ {ps : List (V × Int × List Int)} {us : List Value}, (∀ p ∈ ps, ∀ u, RelV p.1 u → ∃ as, Reads H u (encS p) as) → Vals (ps.map (·.1)) us → PySem.W.EachIs (fun v (p : V × Int × List Int) => RelV p.1 v) us ps ∧ PySem.W.EachIs (fun v p => ∃ as, Reads H v (encS p) as) us ps
  | [], us, _, h => by cases h; exact ⟨.nil, .nil⟩
  | p :: ps, us, hr, h => by
    cases h with
    | cons h t =>
      obtain ⟨e1, e2⟩ := each_of_vals (fun q hq => hr q (List.mem_cons_of_mem _ hq)) t
      exact ⟨.cons h e1, .cons (hr p List.mem_cons_self _ h) e2⟩
theorem vals_of_each : ∀ {ps : List (V × Int × List Int)} {us : List Value}, PySem.W.EachIs (fun v (p : V × Int × List Int) => RelV p.1 v) us ps → Vals (ps.map (·.1)) us
  | [], _, h => by cases h; exact .nil
  | p :: ps, _, h => by
    cases h with
    | cons h t => exact .cons h (vals_of_each t)
theorem alike_sits (p q : V × Int × List Int) : PySem.W.alike (encS p) (encS q) = true := by
  have h := PySem.W.alike_ints p.2.2 q.2.2
  simp [encS, sitD, PySem.W.alike, PySem.W.alikeAll, h]
theorem depth_sit (s : Int) (ns : List Int) : PyData.depth (sitD s ns) = 2 := by
  have h := PySem.W.depth_ints ns
  show max 0 (max (PyData.depthAll (ns.map PyData.int) + 1) 0) + 1 = 2
  rw [h]
  rfl
theorem cSortS {X : Cx} (K : PySem.W.Frag) (hu : X.A.units + 64 < cLine) (hK : X.K = K := by rfl) : CallR X (.builtin "sorted") (rSortS K) := by
  subst hK
  intro pins s σ H vs us Q I r h
  obtain ⟨a, ps, rfl, hs, hd, q⟩ := h
  obtain ⟨u, rfl, rx⟩ := vals1 r
  cases rx
  obtain ⟨its, rv, pl, hz⟩ := I.list hs
  have hlen := rv.length
  rw [List.length_map] at hlen hz
  obtain ⟨e, er⟩ := each_of_vals (H := s.heap) (fun p hp u hu => Dp.reads I (encS p) p.1 u (sit_dp (hd p hp)) hu) rv
  refine PySem.W.sorted_data (R := fun v (p : V × Int × List Int) => RelV p.1 v) (enc := encS) (bs := ps) pl.isList e er (PySem.W.AllAlike.of alike_sits) (PySem.W.Sortable.tuples fun p => ⟨_, _, rfl⟩) hz (fun p _ => ?_) fun out ho eo => ?_
  · rw [show PyData.depth (encS p) = 2 from depth_sit _ _]
    omega
  · obtain ⟨n, hn⟩ := sortedAll_at s.heap its out.toArray
    have hm : (ps.mergeSort leS).length = ps.length := List.length_mergeSort ps
    refine ⟨.ref _, upd H _ (.lst ((ps.mergeSort leS).map (·.1))), I.laid (t' := s.toks) (fun b o e => sortedAll_old e) (Nat.le_succ _) ⟨?_, out, n, vals_of_each eo, hn⟩, rfl, q _ (I.hok.fresh (Nat.le_succ _))⟩
    rw [List.length_map, hm]
    exact hz
/-! ### the order of situations -/
abbrev Sn := Int × List Int
def sD (b : Sn) : PyData := sitD b.1 b.2
def ltL : List Int → List Int → Bool
  | a :: as, b :: bs => if a = b then ltL as bs else decide (a < b)
  | _, _ => false
def ltS (p q : Sn) : Bool := if p.1 = q.1 then ltL p.2 q.2 else decide (p.1 < q.1)
def covS (p q : Sn) : Bool := covB p.1 p.2 q.1 q.2
theorem ltL_core : ∀ {as bs : List Int}, as.length = bs.length → ltL as bs = decide (as < bs)
  | [], [], _ => by simp [ltL]
  | [], _ :: _, h => by cases h
  | _ :: _, [], h => by cases h
  | a :: as, b :: bs, h => by
    unfold ltL
    by_cases e : a = b
    · rw [if_pos e, ltL_core (Nat.succ.inj h)]
      simp [e, List.cons_lt_cons_iff]
    · rw [if_neg e]
      simp [e, List.cons_lt_cons_iff]
theorem ltL_irr : ∀ as : List Int, ltL as as = false
  | [] => rfl
  | a :: as => by unfold ltL; rw [if_pos rfl]; exact ltL_irr as
theorem ltL_tr : ∀ {as bs cs : List Int}, ltL as bs = true → ltL bs cs = true → ltL as cs = true
  | [], _, _, h, _ => by cases h
  | _ :: _, [], _, h, _ => by cases h
  | _ :: _, _ :: _, [], _, h => by cases h
  | a :: as, b :: bs, c :: cs, h1, h2 => by
    unfold ltL at h1 h2 ⊢
    by_cases e1 : a = b
    · subst e1
      rw [if_pos rfl] at h1
      by_cases e2 : a = c
      · rw [if_pos e2] at h2 ⊢
        exact ltL_tr h1 h2
      · rw [if_neg e2] at h2 ⊢
        exact h2
    · rw [if_neg e1] at h1
      have h1 := of_decide_eq_true h1
      by_cases e2 : b = c
      · subst e2
        rw [if_neg e1]
        exact decide_eq_true h1
      · rw [if_neg e2] at h2
        have h2 := of_decide_eq_true h2
        rw [if_neg (by omega)]
        exact decide_eq_true (by omega)
theorem ltL_tot : ∀ {as bs : List Int}, as.length = bs.length → ltL as bs = false → ltL bs as = false → as = bs
  | [], [], _, _, _ => rfl
  | [], _ :: _, h, _, _ => by cases h
  | _ :: _, [], h, _, _ => by cases h
  | a :: as, b :: bs, h, h1, h2 => by
    unfold ltL at h1 h2
    by_cases e : a = b
    · subst e
      rw [if_pos rfl] at h1 h2
      rw [ltL_tot (Nat.succ.inj h) h1 h2]
    · rw [if_neg e] at h1
      rw [if_neg (Ne.symm e)] at h2
      have h1 := of_decide_eq_false h1
      have h2 := of_decide_eq_false h2
      omega
theorem geAll_lt : ∀ {as bs : List Int}, geAll as bs = true → ltL as bs = false
  | [], _, _ => rfl
  | _ :: _, [], _ => rfl
  | a :: as, b :: bs, h => by
    have h : (decide (b ≤ a) && geAll as bs) = true := h
    rw [Bool.and_eq_true, decide_eq_true_eq] at h
    unfold ltL
    by_cases e : a = b
    · rw [if_pos e]; exact geAll_lt h.2
    · rw [if_neg e]; exact decide_eq_false (by omega)
theorem geAll_tr : ∀ {as bs cs : List Int}, as.length = bs.length → bs.length = cs.length → geAll as bs = true → geAll bs cs = true → geAll as cs = true
  | [], [], [], _, _, _, _ => rfl
  | [], [], _ :: _, _, h, _, _ => by cases h
  | [], _ :: _, _, h, _, _, _ => by cases h
  | _ :: _, [], _, h, _, _, _ => by cases h
  | _ :: _, _ :: _, [], _, h, _, _ => by cases h
  | a :: as, b :: bs, c :: cs, l1, l2, h1, h2 => by
    have h1 : (decide (b ≤ a) && geAll as bs) = true := h1
    have h2 : (decide (c ≤ b) && geAll bs cs) = true := h2
    rw [Bool.and_eq_true, decide_eq_true_eq] at h1 h2
    show (decide (c ≤ a) && geAll as cs) = true
    rw [geAll_tr (Nat.succ.inj l1) (Nat.succ.inj l2) h1.2 h2.2, decide_eq_true (by omega)]
    rfl
theorem covS_refl (p : Sn) : covS p p = true := covB_refl _ _
theorem covS_iff {p q : Sn} : covS p q = true ↔ p.1 = q.1 ∧ geAll p.2 q.2 = true := by
  show (decide (p.1 = q.1) && geAll p.2 q.2) = true ↔ _
  rw [Bool.and_eq_true, decide_eq_true_eq]
theorem covS_tr {p q r : Sn} (l1 : p.2.length = q.2.length) (l2 : q.2.length = r.2.length) (h1 : covS p q = true) (h2 : covS q r = true) : covS p r = true := by
  obtain ⟨a1, a2⟩ := covS_iff.mp h1
  obtain ⟨b1, b2⟩ := covS_iff.mp h2
  exact covS_iff.mpr ⟨a1.trans b1, geAll_tr l1 l2 a2 b2⟩
theorem covS_lt {p q : Sn} (h : covS p q = true) : ltS p q = false := by
  obtain ⟨a1, a2⟩ := covS_iff.mp h
  unfold ltS
  rw [if_pos a1]
  exact geAll_lt a2
theorem ltS_irr (p : Sn) : ltS p p = false := covS_lt (covS_refl p)
theorem ltS_tr {p q r : Sn} (h1 : ltS p q = true) (h2 : ltS q r = true) : ltS p r = true := by
  unfold ltS at h1 h2 ⊢
  by_cases e1 : p.1 = q.1
  · rw [if_pos e1] at h1
    rw [e1]
    by_cases e2 : q.1 = r.1
    · rw [if_pos e2] at h2 ⊢
      exact ltL_tr h1 h2
    · rw [if_neg e2] at h2 ⊢
      exact h2
  · rw [if_neg e1] at h1
    have h1 := of_decide_eq_true h1
    by_cases e2 : q.1 = r.1
    · rw [← e2, if_neg e1]
      exact decide_eq_true h1
    · rw [if_neg e2] at h2
      have h2 := of_decide_eq_true h2
      rw [if_neg (by omega)]
      exact decide_eq_true (by omega)
theorem ltS_tot {p q : Sn} (l : p.2.length = q.2.length) (h1 : ltS p q = false) (h2 : ltS q p = false) : p = q := by
  unfold ltS at h1 h2
  by_cases e : p.1 = q.1
  · rw [if_pos e] at h1
    rw [if_pos e.symm] at h2
    exact Prod.ext e (ltL_tot l h1 h2)
  · rw [if_neg e] at h1
    rw [if_neg (Ne.symm e)] at h2
    have h1 := of_decide_eq_false h1
    have h2 := of_decide_eq_false h2
    omega
theorem covS_anti {p q : Sn} (l : p.2.length = q.2.length) (h1 : covS p q = true) (h2 : covS q p = true) : p = q := ltS_tot l (covS_lt h1) (covS_lt h2)
theorem eqv_ints_iff : ∀ {as bs : List Int}, PyData.eqvAll (as.map PyData.int) (bs.map PyData.int) = true → as = bs
  | [], [], _ => rfl
  | [], _ :: _, h => by simp [PyData.eqvAll] at h
  | _ :: _, [], h => by simp [PyData.eqvAll] at h
  | a :: as, b :: bs, h => by
    simp only [List.map_cons, PyData.eqvAll, PyData.eqv, Bool.and_eq_true, beq_iff_eq] at h
    rw [h.1, eqv_ints_iff h.2]
theorem leS_lt {p q : V × Int × List Int} (l : p.2.2.length = q.2.2.length) (h : leS p q = true) : ltS q.2 p.2 = false := by
  have h : (!PySem.W.dataLt (encS q) (encS p)) = true := h
  rw [Bool.not_eq_true'] at h
  unfold encS sitD at h
  rw [PySem.W.dataLt_pair (by simp [PySem.W.alike]) (by simp [PySem.W.alike, PySem.W.alike_ints]), PySem.W.dataLt_int, PySem.W.dataLt_list] at h
  unfold ltS
  by_cases e : q.2.1 = p.2.1
  · rw [if_pos (by simp [PyData.eqv, e])] at h
    rw [if_pos e]
    by_cases e2 : q.2.2 = p.2.2
    · rw [e2]; exact ltL_irr _
    · rw [if_neg (fun z => e2 (eqv_ints_iff (by simpa [PyData.eqv] using z)))] at h
      have h3 : PySem.W.rowLt (q.2.2.map PyData.int) (p.2.2.map PyData.int) = false := h
      rw [PySem.W.dataLt_ints] at h3
      rw [ltL_core l.symm]
      exact h3
  · rw [if_neg (by simp [PyData.eqv, e])] at h
    rw [if_neg e]
    exact h
/-! ### the least ones -/
structure Mini (S L : List Sn) : Prop where
  sub : ∀ x ∈ L, x ∈ S
  cov : ∀ x ∈ S, ∃ y ∈ L, covS x y = true
  anti : ∀ x ∈ L, ∀ y ∈ L, covS x y = true → x = y
abbrev Asc (L : List Sn) : Prop := L.Pairwise fun x y => ltS x y = true
structure Least (S L : List Sn) : Prop extends Mini S L where
  asc : Asc L
abbrev Lens (n : Nat) (S : List Sn) : Prop := ∀ x ∈ S, x.2.length = n
theorem asc_eq : ∀ {L M : List Sn}, Asc L → Asc M → (∀ x, x ∈ L ↔ x ∈ M) → L = M
  | [], [], _, _, _ => rfl
  | [], m :: M, _, _, h => by cases (h m).mpr List.mem_cons_self
  | l :: L, [], _, _, h => by cases (h l).mp List.mem_cons_self
  | l :: L, m :: M, hl, hm, h => by
    obtain ⟨l1, l2⟩ := List.pairwise_cons.mp hl
    obtain ⟨m1, m2⟩ := List.pairwise_cons.mp hm
    have e : l = m := by
      rcases List.mem_cons.mp ((h l).mp List.mem_cons_self) with e | a
      · exact e
      · rcases List.mem_cons.mp ((h m).mpr List.mem_cons_self) with e | b
        · exact e.symm
        · have := ltS_tr (l1 _ b) (m1 _ a)
          rw [ltS_irr] at this
          cases this
    subst e
    rw [asc_eq l2 m2 fun x => ⟨fun hx => ?_, fun hx => ?_⟩]
    · rcases List.mem_cons.mp ((h x).mp (List.mem_cons_of_mem _ hx)) with e | a
      · have := l1 _ hx
        rw [e, ltS_irr] at this
        cases this
      · exact a
    · rcases List.mem_cons.mp ((h x).mpr (List.mem_cons_of_mem _ hx)) with e | a
      · have := m1 _ hx
        rw [e, ltS_irr] at this
        cases this
      · exact a
theorem Mini.in' {n : Nat} {S L M : List Sn} (hn : Lens n S) (h : Mini S L) (h' : Mini S M) : ∀ x ∈ L, x ∈ M := fun x hx => by
  obtain ⟨y, hy, c1⟩ := h'.cov x (h.sub x hx)
  obtain ⟨z, hz, c2⟩ := h.cov y (h'.sub y hy)
  have nx := hn x (h.sub x hx)
  have ny := hn y (h'.sub y hy)
  have nz := hn z (h.sub z hz)
  have e := h.anti x hx z hz (covS_tr (by omega) (by omega) c1 c2)
  subst e
  rw [covS_anti (by omega) c1 c2]
  exact hy
theorem Least.uniq {n : Nat} {S L M : List Sn} (hn : Lens n S) (h : Least S L) (h' : Least S M) : L = M := asc_eq h.asc h'.asc fun x => ⟨h.toMini.in' hn h'.toMini x, h'.toMini.in' hn h.toMini x⟩
theorem Least.self {S L : List Sn} (h : Least S L) : Least L L := ⟨⟨fun _ hx => hx, fun x hx => ⟨x, hx, covS_refl x⟩, h.anti⟩, h.asc⟩
theorem Mini.any {n : Nat} {S L : List Sn} (hn : Lens n S) (h : Mini S L) {x : Sn} (hx : x.2.length = n) : L.any (covS x) = S.any (covS x) := by
  rw [Bool.eq_iff_iff, List.any_eq_true, List.any_eq_true]
  constructor
  · rintro ⟨y, hy, c⟩
    exact ⟨y, h.sub y hy, c⟩
  · rintro ⟨y, hy, c⟩
    obtain ⟨z, hz, c2⟩ := h.cov y hy
    have ny := hn y hy
    have nz := hn z (h.sub z hz)
    exact ⟨z, hz, covS_tr (by omega) (by omega) c c2⟩
theorem Mini.nil : Mini [] [] := ⟨fun _ h => h, (fun _ h => nomatch h), (fun _ h => nomatch h)⟩
theorem Least.nil : Least [] [] := ⟨Mini.nil, List.Pairwise.nil⟩
theorem snoc_mem {x y : Sn} {S : List Sn} : y ∈ S ++ [x] ↔ y ∈ S ∨ y = x := by rw [List.mem_append, List.mem_singleton]
theorem Least.stepT {S L : List Sn} {x : Sn} (h : Least S L) (e : L.any (covS x) = true) : Least (S ++ [x]) L := by
  obtain ⟨y, hy, c⟩ := List.any_eq_true.mp e
  refine ⟨⟨fun z hz => List.mem_append_left _ (h.sub z hz), fun z hz => ?_, h.anti⟩, h.asc⟩
  rcases snoc_mem.mp hz with hz | rfl
  · exact h.cov z hz
  · exact ⟨y, hy, c⟩
theorem Least.stepF {n : Nat} {S L : List Sn} {x : Sn} (hn : Lens n S) (hx : x.2.length = n) (h : Least S L) (srt : ∀ y ∈ S, ltS x y = false) (e : L.any (covS x) = false) : Least (S ++ [x]) (L ++ [x]) := by
  have no : ∀ y ∈ L, covS x y = false := fun y hy => by
    cases c : covS x y with
    | false => rfl
    | true => rw [List.any_eq_true.mpr ⟨y, hy, c⟩] at e; cases e
  have lt : ∀ y ∈ L, ltS y x = true := fun y hy => by
    cases c : ltS y x with
    | true => rfl
    | false =>
      have ny := hn y (h.sub y hy)
      have := ltS_tot (by omega) c (srt y (h.sub y hy))
      subst this
      have := no y hy
      rw [covS_refl] at this
      cases this
  refine ⟨⟨fun z hz => ?_, fun z hz => ?_, fun z hz y hy c => ?_⟩, List.pairwise_append.mpr ⟨h.asc, List.pairwise_singleton _ _, fun y hy z hz => by rw [List.mem_singleton.mp hz]; exact lt y hy⟩⟩
  · rcases snoc_mem.mp hz with hz | rfl
    · exact List.mem_append_left _ (h.sub z hz)
    · exact snoc_mem.mpr (.inr rfl)
  · rcases snoc_mem.mp hz with hz | rfl
    · obtain ⟨y, hy, c⟩ := h.cov z hz
      exact ⟨y, List.mem_append_left _ hy, c⟩
    · exact ⟨z, snoc_mem.mpr (.inr rfl), covS_refl z⟩
  · rcases snoc_mem.mp hz with h1 | h1 <;> rcases snoc_mem.mp hy with h2 | h2
    · exact h.anti z h1 y h2 c
    · rw [h2] at c
      have := covS_lt c
      rw [lt z h1] at this
      cases this
    · rw [h1, no y h2] at c
      cases c
    · rw [h1, h2]
theorem Mini.stepT {S L : List Sn} {x : Sn} (h : Mini S L) (e : L.any (covS x) = true) : Mini (S ++ [x]) L := by
  obtain ⟨y, hy, c⟩ := List.any_eq_true.mp e
  refine ⟨fun z hz => List.mem_append_left _ (h.sub z hz), fun z hz => ?_, h.anti⟩
  rcases snoc_mem.mp hz with hz | rfl
  · exact h.cov z hz
  · exact ⟨y, hy, c⟩
theorem Mini.stepF {n : Nat} {S L : List Sn} {x : Sn} (hn : Lens n S) (hx : x.2.length = n) (h : Mini S L) (e : L.any (covS x) = false) : Mini (S ++ [x]) (L.filter (fun o => !covS o x) ++ [x]) := by
  have no : ∀ y ∈ L, covS x y = false := fun y hy => by
    cases c : covS x y with
    | false => rfl
    | true => rw [List.any_eq_true.mpr ⟨y, hy, c⟩] at e; cases e
  refine ⟨fun z hz => ?_, fun z hz => ?_, fun z hz y hy c => ?_⟩
  · rcases snoc_mem.mp hz with hz | rfl
    · exact List.mem_append_left _ (h.sub z (List.mem_filter.mp hz).1)
    · exact snoc_mem.mpr (.inr rfl)
  · rcases snoc_mem.mp hz with hz | rfl
    · obtain ⟨y, hy, c⟩ := h.cov z hz
      cases c2 : covS y x with
      | false => exact ⟨y, List.mem_append_left _ (List.mem_filter.mpr ⟨hy, by rw [c2]; rfl⟩), c⟩
      | true =>
        have ny := hn y (h.sub y hy)
        have nz := hn z hz
        exact ⟨x, snoc_mem.mpr (.inr rfl), covS_tr (by omega) (by omega) c c2⟩
    · exact ⟨z, snoc_mem.mpr (.inr rfl), covS_refl z⟩
  · rcases snoc_mem.mp hz with h1 | h1 <;> rcases snoc_mem.mp hy with h2 | h2
    · exact h.anti z (List.mem_filter.mp h1).1 y (List.mem_filter.mp h2).1 c
    · rw [h2] at c
      have := (List.mem_filter.mp h1).2
      rw [c] at this
      cases this
    · rw [h1, no y (List.mem_filter.mp h2).1] at c
      cases c
    · rw [h1, h2]
theorem stepF_nodup {L : List Sn} {x : Sn} (nd : L.Nodup) (e : L.any (covS x) = false) : (L.filter (fun o => !covS o x) ++ [x]).Nodup := by
  refine List.nodup_append.mpr ⟨nd.filter _, List.nodup_cons.mpr ⟨fun h => (List.not_mem_nil h), List.nodup_nil⟩, fun a ha b hb => ?_⟩
  rw [List.mem_singleton.mp hb]
  rintro rfl
  rw [List.any_eq_true.mpr ⟨a, (List.mem_filter.mp ha).1, covS_refl a⟩] at e
  cases e
theorem asc_split {r : Sn} : ∀ {O : List Sn}, Asc O → ∃ A B, O = A ++ B ∧ (∀ y ∈ A, ltS y r = true) ∧ ∀ y ∈ B, ltS y r = false
  | [], _ => ⟨[], [], rfl, (fun _ h => nomatch h), (fun _ h => nomatch h)⟩
  | o :: O, h => by
    obtain ⟨h1, h2⟩ := List.pairwise_cons.mp h
    obtain ⟨A, B, e, a, b⟩ := asc_split (r := r) h2
    cases c : ltS o r with
    | true =>
      refine ⟨o :: A, B, by rw [e]; rfl, fun y hy => ?_, b⟩
      rcases List.mem_cons.mp hy with rfl | hy
      · exact c
      · exact a y hy
    | false =>
      refine ⟨[], o :: O, rfl, (fun y hy => nomatch hy), fun y hy => ?_⟩
      rcases List.mem_cons.mp hy with rfl | hy
      · exact c
      · cases c2 : ltS y r with
        | false => rfl
        | true => rw [ltS_tr (h1 y hy) c2] at c; cases c
theorem ins_asc {n : Nat} {r : Sn} {O : List Sn} (h : Asc O) (hn : Lens n O) (hr : r.2.length = n) (no : r ∉ O) : Asc (O.take (O.filter fun y => ltS y r).length ++ [r] ++ O.drop (O.filter fun y => ltS y r).length) := by
  obtain ⟨A, B, rfl, a, b⟩ := asc_split (r := r) h
  have e : ((A ++ B).filter fun y => ltS y r) = A := by
    rw [List.filter_append, List.filter_eq_self.mpr a, List.filter_eq_nil_iff.mpr (fun y hy => by rw [b y hy]; decide), List.append_nil]
  rw [e, List.take_left, List.drop_left]
  obtain ⟨hA, hB, hAB⟩ := List.pairwise_append.mp h
  refine List.pairwise_append.mpr ⟨List.pairwise_append.mpr ⟨hA, List.pairwise_singleton _ _, fun y hy z hz => by rw [List.mem_singleton.mp hz]; exact a y hy⟩, hB, fun y hy z hz => ?_⟩
  rcases snoc_mem.mp hy with hy | rfl
  · exact hAB y hy z hz
  · cases c : ltS y z with
    | true => rfl
    | false =>
      have nz := hn z (List.mem_append_right _ hz)
      have := ltS_tot (by omega) c (b z hz)
      subst this
      exact absurd (List.mem_append_right _ hz) no
theorem ins_mem {r x : Sn} {k : Nat} {O : List Sn} : x ∈ O.take k ++ [r] ++ O.drop k ↔ x ∈ O ∨ x = r := by
  have e : x ∈ O ↔ x ∈ O.take k ∨ x ∈ O.drop k := by
    conv => lhs; rw [← List.take_append_drop k O]
    exact List.mem_append
  rw [List.mem_append, List.mem_append, List.mem_singleton, e]
  constructor
  · rintro ((h | h) | h)
    · exact .inl (.inl h)
    · exact .inr h
    · exact .inl (.inr h)
  · rintro ((h | h) | h)
    · exact .inl (.inl h)
    · exact .inr h
    · exact .inl (.inr h)
theorem Mini.least {S L O : List Sn} (h : Mini S L) (a : Asc O) (m : ∀ x, x ∈ O ↔ x ∈ L) : Least S O := ⟨⟨fun x hx => h.sub x ((m x).mp hx), fun x hx => by
  obtain ⟨y, hy, c⟩ := h.cov x hx
  exact ⟨y, (m y).mpr hy, c⟩, fun x hx y hy => h.anti x ((m x).mp hx) y ((m y).mp hy)⟩, a⟩
theorem Least.congr {S S' L : List Sn} (h : Least S L) (m : ∀ x, x ∈ S ↔ x ∈ S') : Least S' L := ⟨⟨fun x hx => (m x).mp (h.sub x hx), fun x hx => h.cov x ((m x).mpr hx), h.anti⟩, h.asc⟩
section
variable {P : Program} {w : World} {K : PySem.W.Frag} {mg : Str → Option Value} {base : Heap}
abbrev s_covers : Stmt := topS 5
theorem sc_covers : FnScope ["first", "second", "many", "few"] ["first", "second"] (defScope s_covers) := ⟨rfl, rfl, rfl, by decide +kernel, rfl, by decide +kernel, by decide +kernel⟩
-- covers slots: first=0 second=1 many=2 few=3 globals: zip
def spCov (K : PySem.W.Frag) : Sp := fun vs H Q _ => ∃ (x y : V) (s t : Int) (ms ns : List Int), vs = [x, y] ∧ Sit K H x s ms ∧ Sit K H y t ns ∧ ms.length = ns.length ∧ ∀ H', Same H H' → Q (.bl (covB s ms t ns)) H'
theorem fd_covers {f : Addr} {fd : FuncData} (F : Fun K "covers" "covers" s_covers f fd) (m : mg "covers" = some (.ref f)) (B : Bt mg) : Fd P w K mg base "covers" ["first", "second"] 1 (spCov K) := by
  refine ⟨f, fd, F.ok sc_covers (fun vs H Q E h => ?_) (fun cdv A outer s H vs Q E hr h => ?_), m, F.kp, F.binds (ps := ["first", "second"]) fun _ _ _ _ _ _ us hl => match us, hl with | [_, _], _ => rfl⟩
  · obtain ⟨x, y, s, t, ms, ns, rfl, _⟩ := h
    rfl
  obtain ⟨x, y, s, t, ms, ns, rfl, ⟨a, ca, rfl, ha, hca⟩, ⟨b, cb, rfl, hb, hcb⟩, hl, q⟩ := h
  refine ⟨_, (pss_cons (ps_if (pt_cmpR op_ne (pe_ix (ixT K) (pv 0) pe_int (fun _ _ => rfl)) (pe_ix (ixT K) (pv 1) pe_int (fun _ _ => rfl)) (nomark _))
 (pss_one (ps_ret pe_bl))
 pss_nil)
 (pss_cons (ps_for PassesOwn.never rfl (pi_zip (by rfl) B.zip (pa_cons (pe_ix (ixT K) (pv 0) pe_int (fun _ _ => rfl)) (pa_cons (pe_ix (ixT K) (pv 1) pe_int (fun _ _ => rfl)) pa_nil))) (pg_tup rfl (pgs_cons (pg_name (i := 2) sc_covers.nd rfl (Or.inl rfl)) (pgs_cons (pg_name (i := 3) sc_covers.nd rfl (Or.inl rfl)) pgs_nil)))
 (pss_one (ps_if (pt_cmpR op_lt (pv 2) (pv 3) (nomark _))
 (pss_one (ps_ret pe_bl))
 pss_nil)))
 (pss_one (ps_ret pe_bl)))), ?_⟩
  refine ⟨_, rfl, _, _, _, _, rfl, rfl, ha, atI_nat (j := 0) rfl, _, rfl, _, _, _, _, rfl, rfl, hb, atI_nat (j := 0) rfl, rfl, _, rfl, ?_⟩
  by_cases est : s = t
  · subst est
    rw [show (!decide (V.int s = V.int s)) = false by rw [decide_eq_true rfl]; rfl]
    refine iteF ?_
    refine ⟨_, rfl, _, _, _, _, rfl, rfl, ha, atI_nat (j := 1) rfl, _, rfl, _, _, _, _, rfl, rfl, hb, atI_nat (j := 1) rfl, ?_⟩
    refine ⟨_, _, _, _, rfl, hca, hcb, RZ.for_zipL (xs := ms.map V.int) (ys := ns.map V.int) (by rw [List.length_map, List.length_map]; exact hl) (fun i σ' H' => ∃ y2 y3 : Option V, σ' = [some (.ref a), some (.ref b), y2, y3] ∧ Same H H' ∧ geAll (ms.take i) (ns.take i) = true) ⟨none, none, rfl, Same.refl _, rfl⟩ ?_ ?_ ?_⟩
    · rintro i σ' H' ⟨y2, y3, rfl, sm, _⟩
      exact ⟨sm.seq hca, sm.seq hcb⟩
    · rintro i x y T σ' H' hx hy ⟨y2, y3, rfl, sm, g⟩ nT
      obtain ⟨u, hu, rfl⟩ := get_map_inv hx
      obtain ⟨v, hv, rfl⟩ := get_map_inv hy
      have sm2 : Same H (upd H' T (.tup [.int u, .int v])) := sm.trans (same_new nT)
      refine ⟨_, _, rfl, .inl (.inl upd_same), rfl, _, _, rfl, _, _, rfl, rfl, ?_⟩
      refine ⟨_, rfl, _, rfl, _, _, rfl, rfl, _, rfl, ite2 (fun e => ?_) (fun e => ?_)⟩
      · have e1 := of_decide_eq_true e
        have e2 : covB s ms s ns = false := by
          unfold covB
          rw [geAll_false (i := i + 1), Bool.and_false]
          rw [geAll_take hu hv, decide_eq_false (show ¬ v ≤ u by omega), Bool.and_false]
        rw [← e2]
        exact q _ sm2
      · have e1 : ¬ u < v := fun z => e (decide_eq_true z)
        exact ⟨_, _, rfl, sm2, by rw [geAll_take hu hv, g, decide_eq_true (show v ≤ u by omega)]; rfl⟩
    · rintro σ' H' ⟨y2, y3, rfl, sm, g⟩
      rw [List.length_map] at g
      have e2 : covB s ms s ns = true := by
        unfold covB
        rw [List.take_length, hl, List.take_length] at g
        rw [g, decide_eq_true (show s = s from rfl)]
        rfl
      rw [← e2]
      exact q _ sm
  · rw [show (!decide (V.int s = V.int t)) = true by rw [decide_eq_false (fun z => est (by cases z; rfl))]; rfl]
    refine iteT ?_
    rw [← show covB s ms t ns = false by unfold covB; rw [decide_eq_false est]; rfl]
    exact q _ (Same.refl _)
end
/-! ### the floor: paths of numbers -/
abbrev Prs := List (Int × Int)
def flatP : Prs → List Int
  | [] => []
  | x :: r => x.1 :: x.2 :: flatP r
theorem flatP_app : ∀ a b : Prs, flatP (a ++ b) = flatP a ++ flatP b
  | [], _ => rfl
  | x :: r, b => by
    show x.1 :: x.2 :: flatP (r ++ b) = _
    rw [flatP_app r b]
    rfl
theorem flatP_len : ∀ a : Prs, (flatP a).length = 2 * a.length
  | [] => rfl
  | x :: r => by
    show (flatP r).length + 1 + 1 = 2 * (r.length + 1)
    rw [flatP_len r]
    omega
theorem flatP_pre : ∀ {a b : Prs} {t : List Int}, flatP b = flatP a ++ t → ∃ c, b = a ++ c
  | [], b, _, _ => ⟨b, rfl⟩
  | x :: r, [], t, h => by cases h
  | x :: r, y :: b, t, h => by
    have h : y.1 :: y.2 :: flatP b = x.1 :: x.2 :: (flatP r ++ t) := h
    injection h with h1 h
    injection h with h2 h
    obtain ⟨c, e⟩ := flatP_pre h
    exact ⟨c, by rw [e, show y = x from Prod.ext h1 h2]; rfl⟩
/-- pairs that meet needs, in order -/
def SubP : Prs → Prs → Prop
  | [], ks => ks = []
  | x :: r, ks => ks = [] ∨ (∃ n k', ks = (x.1, n) :: k' ∧ n ≤ x.2 ∧ SubP r k') ∨ SubP r ks
theorem subP_nil : ∀ a : Prs, SubP a []
  | [] => rfl
  | _ :: _ => .inl rfl
theorem subP_self : ∀ a : Prs, SubP a a
  | [] => rfl
  | x :: r => .inr (.inl ⟨x.2, r, rfl, Int.le_refl _, subP_self r⟩)
theorem subP_app : ∀ {a b c : Prs}, SubP a (b ++ c) → SubP a b
  | [], b, c, h => (List.append_eq_nil_iff.mp h).1
  | x :: r, b, c, h => by
    rcases h with h | ⟨n, k', e, hn, h⟩ | h
    · exact .inl (List.append_eq_nil_iff.mp h).1
    · cases b with
      | nil => exact .inl rfl
      | cons y b =>
        injection e with e1 e2
        subst e1
        rw [← e2] at h
        exact .inr (.inl ⟨n, b, rfl, hn, subP_app h⟩)
    · exact .inr (.inr (subP_app h))
theorem subP_take (a : Prs) (j : Nat) : SubP a (a.take j) := subP_app (c := a.drop j) (by rw [List.take_append_drop]; exact subP_self a)
/-- a tree of dicts: where the dict at the end of a path stands -/
abbrev Tri := List Int → Option Addr
def EndF (F : Tri) (p : List Int) : Prop := F p ≠ none ∧ ∀ k, F (p ++ [k]) = none
def MtT (F : Tri) : Prs → List Int → Prop
  | [], _ => False
  | x :: r, p => (∃ n, n ≤ x.2 ∧ F (p ++ [x.1, n]) ≠ none ∧ (EndF F (p ++ [x.1, n]) ∨ MtT F r (p ++ [x.1, n]))) ∨ MtT F r p
structure WfT (F : Tri) : Prop where
  root : F [] ≠ none
  clo : ∀ p k, F (p ++ [k]) ≠ none → F p ≠ none
  inj : ∀ p q a, F p = some a → F q = some a → p = q
theorem WfT.clo2 {F : Tri} (h : WfT F) : ∀ (t p : List Int), F (p ++ t) ≠ none → F p ≠ none
  | [], p, e => by rw [List.append_nil] at e; exact e
  | k :: t, p, e => by
    refine h.clo p k (h.clo2 t (p ++ [k]) ?_)
    rw [List.append_assoc]
    exact e
theorem WfT.pre {F : Tri} (h : WfT F) {p q : List Int} (hp : p <+: q) (e : F q ≠ none) : F p ≠ none := by
  obtain ⟨t, rfl⟩ := hp
  exact h.clo2 t p e
theorem mt_iff {F : Tri} (w : WfT F) : ∀ (ps : Prs) (p : List Int), (EndF F p ∨ MtT F ps p) ↔ ∃ ks, EndF F (p ++ flatP ks) ∧ SubP ps ks
  | [], p => by
    constructor
    · rintro (h | h)
      · exact ⟨[], by rw [show flatP [] = [] from rfl, List.append_nil]; exact h, rfl⟩
      · exact h.elim
    · rintro ⟨ks, h, hs⟩
      obtain rfl : ks = [] := hs
      rw [show flatP [] = [] from rfl, List.append_nil] at h
      exact .inl h
  | x :: r, p => by
    constructor
    · rintro (h | ⟨n, hn, _, h⟩ | h)
      · exact ⟨[], by rw [show flatP [] = [] from rfl, List.append_nil]; exact h, .inl rfl⟩
      · obtain ⟨ks, h1, h2⟩ := (mt_iff w r (p ++ [x.1, n])).mp h
        refine ⟨(x.1, n) :: ks, ?_, .inr (.inl ⟨n, ks, rfl, hn, h2⟩)⟩
        rw [List.append_assoc] at h1
        exact h1
      · obtain ⟨ks, h1, h2⟩ := (mt_iff w r p).mp (.inr h)
        exact ⟨ks, h1, .inr (.inr h2)⟩
    · rintro ⟨ks, h, hs⟩
      rcases hs with rfl | ⟨n, k', rfl, hn, hs⟩ | hs
      · rw [show flatP [] = [] from rfl, List.append_nil] at h
        exact .inl h
      · have e : p ++ flatP ((x.1, n) :: k') = (p ++ [x.1, n]) ++ flatP k' := by
          rw [List.append_assoc]
          rfl
        rw [e] at h
        exact .inr (.inl ⟨n, hn, w.clo2 _ _ h.1, (mt_iff w r _).mpr ⟨k', h, hs⟩⟩)
      · rcases (mt_iff w r p).mpr ⟨ks, h, hs⟩ with h | h
        · exact .inl h
        · exact .inr (.inr h)
/-- a packed situation that is above something that is kept -/
def Und (F : Tri) (x : Int × Prs) : Prop := F [x.1] ≠ none ∧ (EndF F [x.1] ∨ MtT F x.2 [x.1])
theorem und_iff {F : Tri} (w : WfT F) (x : Int × Prs) : Und F x ↔ ∃ ks, EndF F (x.1 :: flatP ks) ∧ SubP x.2 ks := by
  have h := mt_iff w x.2 [x.1]
  constructor
  · rintro ⟨_, u⟩
    exact h.mp u
  · intro u
    refine ⟨?_, h.mpr u⟩
    obtain ⟨ks, e, _⟩ := u
    exact w.clo2 (flatP ks) [x.1] e.1
/-! ### keeping one more -/
def addF (F : Tri) (p : List Int) (a : Addr) : Tri := fun q => if q = p then some a else F q
def finF (F : Tri) (p : List Int) (a : Addr) : Tri := fun q => if q = p then some a else if p <+: q then none else F q
theorem snoc_ne {p : List Int} {k : Int} : p ++ [k] ≠ p := fun e => by
  have := congrArg List.length e
  rw [List.length_append] at this
  simp at this
theorem snoc_inj {p q : List Int} {k j : Int} (e : p ++ [k] = q ++ [j]) : p = q ∧ k = j := by
  obtain ⟨h1, h2⟩ := List.append_inj' e rfl
  injection h2 with h2
  exact ⟨h1, h2⟩
theorem snoc_nil {p : List Int} {k : Int} : p ++ [k] ≠ [] := by simp
theorem WfT.add {F : Tri} (w : WfT F) {p : List Int} {k : Int} {a : Addr} (hp : F p ≠ none) (hn : ∀ q, F q ≠ some a) : WfT (addF F (p ++ [k]) a) := by
  refine ⟨?_, fun q j h => ?_, fun q r b h1 h2 => ?_⟩
  · unfold addF
    rw [if_neg fun e => snoc_nil e.symm]
    exact w.root
  · unfold addF at h ⊢
    by_cases e : q = p ++ [k]
    · rw [if_pos e]
      exact fun z => nomatch z
    · rw [if_neg e]
      by_cases e2 : q ++ [j] = p ++ [k]
      · rw [(snoc_inj e2).1]
        exact hp
      · rw [if_neg e2] at h
        exact w.clo q j h
  · unfold addF at h1 h2
    by_cases e : q = p ++ [k]
    · by_cases e2 : r = p ++ [k]
      · rw [e, e2]
      · rw [if_pos e] at h1
        rw [if_neg e2] at h2
        cases h1
        exact absurd h2 (hn r)
    · by_cases e2 : r = p ++ [k]
      · rw [if_pos e2] at h2
        rw [if_neg e] at h1
        cases h2
        exact absurd h1 (hn q)
      · rw [if_neg e] at h1
        rw [if_neg e2] at h2
        exact w.inj q r b h1 h2
theorem pre_snoc {p q : List Int} {k : Int} (h : p <+: q ++ [k]) : p = q ++ [k] ∨ p <+: q := by
  rcases List.prefix_concat_iff.mp (by simpa using h) with h | h
  · exact .inl (by simpa using h)
  · exact .inr h
theorem WfT.fin {F : Tri} (w : WfT F) {p : List Int} {k : Int} {a : Addr} (hp : F p ≠ none) (hn : ∀ q, F q ≠ some a) : WfT (finF F (p ++ [k]) a) := by
  refine ⟨?_, fun q j h => ?_, fun q r b h1 h2 => ?_⟩
  · unfold finF
    rw [if_neg fun e => snoc_nil e.symm, if_neg fun e => snoc_nil (List.prefix_nil.mp e)]
    exact w.root
  · unfold finF at h ⊢
    by_cases e : q = p ++ [k]
    · rw [if_pos e]
      exact fun z => nomatch z
    · rw [if_neg e]
      by_cases e2 : q ++ [j] = p ++ [k]
      · obtain ⟨rfl, rfl⟩ := snoc_inj e2
        rw [if_neg fun z => by have := z.length_le; rw [List.length_append, List.length_singleton] at this; omega]
        exact hp
      · rw [if_neg e2] at h
        by_cases e3 : p ++ [k] <+: q
        · rw [if_pos (e3.trans (List.prefix_append _ _))] at h
          exact absurd rfl h
        · rw [if_neg e3]
          by_cases e4 : p ++ [k] <+: q ++ [j]
          · rw [if_pos e4] at h
            exact absurd rfl h
          · rw [if_neg e4] at h
            exact w.clo q j h
  · have out : ∀ {x : List Int} {b : Addr}, finF F (p ++ [k]) a x = some b → (x = p ++ [k] ∧ b = a) ∨ (x ≠ p ++ [k] ∧ F x = some b) := fun {x b} h => by
      unfold finF at h
      by_cases e : x = p ++ [k]
      · rw [if_pos e] at h
        cases h
        exact .inl ⟨e, rfl⟩
      · rw [if_neg e] at h
        by_cases e3 : p ++ [k] <+: x
        · rw [if_pos e3] at h
          cases h
        · rw [if_neg e3] at h
          exact .inr ⟨e, h⟩
    rcases out h1 with ⟨z1, z2⟩ | ⟨z1, z2⟩
    · rcases out h2 with ⟨y1, y2⟩ | ⟨y1, y2⟩
      · rw [z1, y1]
      · rw [z2] at y2
        exact absurd y2 (hn r)
    · rcases out h2 with ⟨y1, y2⟩ | ⟨y1, y2⟩
      · rw [y2] at z2
        exact absurd z2 (hn q)
      · exact w.inj q r b z2 y2
/-- what holds while a way is laid: nothing but the way is new -/
structure Way (F G : Tri) (h : List Int) : Prop where
  wf : WfT G
  old : ∀ q, F q ≠ none → G q = F q
  new : ∀ q, G q ≠ none → F q ≠ none ∨ q <+: h
  at' : G h ≠ none
theorem odd_ne {s s' : Int} {ks js : Prs} {k : Int} : s :: flatP ks ≠ (s' :: flatP js) ++ [k] := fun e => by
  have := congrArg List.length e
  rw [List.length_append, List.length_cons, List.length_cons, flatP_len, flatP_len] at this
  simp at this
  omega
theorem end_fin {F G : Tri} {h : List Int} {k s : Int} {prs : Prs} {a : Addr} (wf : WfT F) (w : Way F G h) (e : h ++ [k] = s :: flatP prs) (nu : ¬ Und F (s, prs)) (s' : Int) (ks : Prs) :
    EndF (finF G (h ++ [k]) a) (s' :: flatP ks) ↔ (s' :: flatP ks = s :: flatP prs ∨ (EndF F (s' :: flatP ks) ∧ ¬ s :: flatP prs <+: s' :: flatP ks)) := by
  have odd : ∀ j, (s' :: flatP ks) ++ [j] ≠ h ++ [k] := fun j z => by
    rw [e] at z
    exact odd_ne z.symm
  rw [← e]
  by_cases e1 : s' :: flatP ks = h ++ [k]
  · refine ⟨fun _ => .inl e1, fun _ => ⟨?_, fun j => ?_⟩⟩
    · unfold finF
      rw [if_pos e1]
      exact fun z => nomatch z
    · unfold finF
      rw [if_neg (odd j), if_pos (by rw [e1]; exact List.prefix_append _ _)]
  · by_cases e2 : h ++ [k] <+: s' :: flatP ks
    · constructor
      · rintro ⟨h1, _⟩
        unfold finF at h1
        rw [if_neg e1, if_pos e2] at h1
        exact absurd rfl h1
      · rintro (z | ⟨_, z⟩)
        · exact absurd z e1
        · exact absurd e2 z
    · have at1 : finF G (h ++ [k]) a (s' :: flatP ks) = G (s' :: flatP ks) := by
        unfold finF
        rw [if_neg e1, if_neg e2]
      have at2 : ∀ j, finF G (h ++ [k]) a ((s' :: flatP ks) ++ [j]) = G ((s' :: flatP ks) ++ [j]) := fun j => by
        unfold finF
        rw [if_neg (odd j), if_neg fun z => ?_]
        rcases pre_snoc z with z | z
        · exact odd j z.symm
        · exact e2 z
      have pfx : s' :: flatP ks <+: h → ∃ j, (s' :: flatP ks) ++ [j] <+: h := fun ⟨t, ht⟩ => by
        cases t with
        | nil =>
          rw [List.append_nil] at ht
          rw [← ht] at e
          exact absurd e.symm odd_ne
        | cons j t => exact ⟨j, t, by rw [← ht, List.append_assoc]; rfl⟩
      constructor
      · rintro ⟨h1, h2⟩
        rw [at1] at h1
        refine .inr ⟨?_, e2⟩
        rcases w.new _ h1 with h3 | h3
        · refine ⟨h3, fun j => ?_⟩
          have h4 := h2 j
          rw [at2] at h4
          cases h5 : F ((s' :: flatP ks) ++ [j]) with
          | none => rfl
          | some b =>
            have := w.old _ (show F ((s' :: flatP ks) ++ [j]) ≠ none by rw [h5]; exact fun z => nomatch z)
            rw [h4, h5] at this
            cases this
        · obtain ⟨j, hj⟩ := pfx h3
          have h4 := h2 j
          rw [at2] at h4
          exact absurd h4 (w.wf.pre hj w.at')
      · rintro (z | ⟨⟨h1, h2⟩, _⟩)
        · exact absurd z e1
        · refine ⟨by rw [at1, w.old _ h1]; exact h1, fun j => ?_⟩
          rw [at2]
          cases h5 : G ((s' :: flatP ks) ++ [j]) with
          | none => rfl
          | some b =>
            exfalso
            rcases w.new _ (show G ((s' :: flatP ks) ++ [j]) ≠ none by rw [h5]; exact fun z => nomatch z) with h6 | h6
            · exact h6 (h2 j)
            · refine nu ((und_iff wf _).mpr ?_)
              obtain ⟨t, ht⟩ := ((List.prefix_append _ [j]).trans h6).trans (List.prefix_append h [k])
              rw [e] at ht
              injection ht with hs ht
              obtain ⟨c, hc⟩ := flatP_pre ht.symm
              refine ⟨ks, ?_, subP_app (c := c) (by rw [← hc]; exact subP_self _)⟩
              rw [← hs]
              exact ⟨h1, h2⟩
theorem und_fin {F G : Tri} {h : List Int} {k s : Int} {prs : Prs} {a : Addr} (wf : WfT F) (w : Way F G h) (hn : ∀ q, G q ≠ some a) (e : h ++ [k] = s :: flatP prs) (nu : ¬ Und F (s, prs)) (x : Int × Prs) :
    Und (finF G (h ++ [k]) a) x ↔ Und F x ∨ (x.1 = s ∧ SubP x.2 prs) := by
  rw [und_iff (w.wf.fin w.at' hn), und_iff wf]
  constructor
  · rintro ⟨ks, h1, h2⟩
    rcases (end_fin wf w e nu x.1 ks).mp h1 with h3 | ⟨h3, _⟩
    · injection h3 with h4 h5
      obtain ⟨c, rfl⟩ := flatP_pre (a := prs) (b := ks) (t := []) (by rw [h5, List.append_nil])
      exact .inr ⟨h4, subP_app h2⟩
    · exact .inl ⟨ks, h3, h2⟩
  · rintro (⟨ks, h1, h2⟩ | ⟨h1, h2⟩)
    · by_cases h3 : s :: flatP prs <+: x.1 :: flatP ks
      · obtain ⟨t, ht⟩ := h3
        injection ht with hs ht
        obtain ⟨c, rfl⟩ := flatP_pre ht.symm
        exact ⟨prs, (end_fin wf w e nu x.1 prs).mpr (.inl (by rw [hs])), subP_app h2⟩
      · exact ⟨ks, (end_fin wf w e nu x.1 ks).mpr (.inr ⟨h1, h3⟩), h2⟩
    · exact ⟨prs, (end_fin wf w e nu x.1 prs).mpr (.inl (by rw [h1])), h2⟩
/-! ### the packed form -/
def pkL : Nat → List Int → Prs
  | _, [] => []
  | n, c :: r => if 0 < c then ((n : Int), c) :: pkL (n + 1) r else pkL (n + 1) r
theorem pkL_cons (n : Nat) (c : Int) (r : List Int) : pkL n (c :: r) = if 0 < c then ((n : Int), c) :: pkL (n + 1) r else pkL (n + 1) r := rfl
theorem pkL_ge : ∀ (n : Nat) (cs : List Int) (x : Int × Int), x ∈ pkL n cs → (n : Int) ≤ x.1
  | _, [], _, h => by cases h
  | n, c :: r, x, h => by
    unfold pkL at h
    by_cases hc : 0 < c
    · rw [if_pos hc] at h
      rcases List.mem_cons.mp h with rfl | h
      · exact Int.le_refl _
      · have := pkL_ge (n + 1) r x h
        omega
    · rw [if_neg hc] at h
      have := pkL_ge (n + 1) r x h
      omega
theorem subP_mem : ∀ {a ks : Prs}, SubP a ks → ∀ x ∈ ks, ∃ y ∈ a, y.1 = x.1
  | [], ks, h, x, hx => by
    obtain rfl : ks = [] := h
    cases hx
  | y :: r, ks, h, x, hx => by
    rcases h with rfl | ⟨n, k', rfl, _, h⟩ | h
    · cases hx
    · rcases List.mem_cons.mp hx with rfl | hx
      · exact ⟨y, List.mem_cons_self, rfl⟩
      · obtain ⟨z, hz, e⟩ := subP_mem h x hx
        exact ⟨z, List.mem_cons_of_mem _ hz, e⟩
    · obtain ⟨z, hz, e⟩ := subP_mem h x hx
      exact ⟨z, List.mem_cons_of_mem _ hz, e⟩
theorem subP_pk : ∀ (n : Nat) (xs ys : List Int), xs.length = ys.length → (∀ x ∈ xs, 0 ≤ x) → (∀ y ∈ ys, 0 ≤ y) → (SubP (pkL n xs) (pkL n ys) ↔ geAll xs ys = true)
  | n, [], [], _, _, _ => ⟨fun _ => rfl, fun _ => rfl⟩
  | n, [], y :: ys, h, _, _ => by cases h
  | n, x :: xs, [], h, _, _ => by cases h
  | n, x :: xs, y :: ys, h, hx, hy => by
    have ih := subP_pk (n + 1) xs ys (Nat.succ.inj h) (fun z hz => hx z (List.mem_cons_of_mem _ hz)) (fun z hz => hy z (List.mem_cons_of_mem _ hz))
    have x0 := hx x List.mem_cons_self
    have y0 := hy y List.mem_cons_self
    have no : ∀ (c : Int) (k' : Prs), ¬ SubP (pkL (n + 1) xs) (((n : Int), c) :: k') := fun c k' z => by
      obtain ⟨w, hw, e⟩ := subP_mem z _ List.mem_cons_self
      have := pkL_ge (n + 1) xs w hw
      have e : w.1 = (n : Int) := e
      omega
    rw [show (geAll (x :: xs) (y :: ys) = true) ↔ (y ≤ x ∧ geAll xs ys = true) by rw [show geAll (x :: xs) (y :: ys) = (decide (y ≤ x) && geAll xs ys) from rfl, Bool.and_eq_true, decide_eq_true_iff], ← ih, pkL_cons, pkL_cons]
    by_cases py : 0 < y
    · rw [if_pos py]
      by_cases px : 0 < x
      · rw [if_pos px]
        constructor
        · rintro (z | ⟨m, k', z, hm, hs⟩ | z)
          · cases z
          · injection z with z1 z2
            injection z1 with _ z1
            subst z1 z2
            exact ⟨hm, hs⟩
          · exact absurd z (no _ _)
        · rintro ⟨h1, h2⟩
          exact .inr (.inl ⟨y, _, rfl, h1, h2⟩)
      · rw [if_neg px]
        exact ⟨fun z => absurd z (no _ _), fun z => absurd z.1 (by omega)⟩
    · rw [if_neg py]
      have ey : y ≤ x := by omega
      by_cases px : 0 < x
      · rw [if_pos px]
        constructor
        · rintro (z | ⟨m, k', z, _, _⟩ | z)
          · rw [z]
            exact ⟨ey, subP_nil _⟩
          · have : (((n : Int), m) : Int × Int) ∈ pkL (n + 1) ys := by rw [z]; exact List.mem_cons_self
            have := pkL_ge (n + 1) ys _ this
            simp at this
            omega
          · exact ⟨ey, z⟩
        · rintro ⟨_, z⟩
          exact .inr (.inr z)
      · rw [if_neg px]
        exact ⟨fun z => ⟨ey, z⟩, fun z => z.2⟩
theorem pkL_inj : ∀ (n : Nat) (xs ys : List Int), xs.length = ys.length → (∀ x ∈ xs, 0 ≤ x) → (∀ y ∈ ys, 0 ≤ y) → pkL n xs = pkL n ys → xs = ys := fun n xs ys hl hx hy e => by
  have h1 := (subP_pk n xs ys hl hx hy).mp (by rw [e]; exact subP_self _)
  have h2 := (subP_pk n ys xs hl.symm hy hx).mp (by rw [e]; exact subP_self _)
  clear e hx hy
  induction xs generalizing ys with
  | nil => cases ys with | nil => rfl | cons y ys => cases hl
  | cons x xs ih => cases ys with
    | nil => cases hl
    | cons y ys =>
      have h1 : (decide (y ≤ x) && geAll xs ys) = true := h1
      have h2 : (decide (x ≤ y) && geAll ys xs) = true := h2
      rw [Bool.and_eq_true, decide_eq_true_iff] at h1 h2
      obtain ⟨a1, b1⟩ := h1
      obtain ⟨a2, b2⟩ := h2
      rw [ih ys (Nat.succ.inj hl) b1 b2, show x = y by omega]
/-! ### d.setdefault(k, x), the keys numbers or texts -/
def rSetDef : V → List V → Hp → VK → Prop := fun x xs H Q => ∃ (a : Addr) (kvs : List (L2.Key × V)) (k : L2.Key) (d : V), x = .ref a ∧ xs = [kV k, d] ∧ H a = some (.dK kvs) ∧ kvs.length < sizeLine ∧
  (∀ v, valV kvs k = some v → Q v H) ∧ (valV kvs k = none → Q d (upd H a (.dK (kvs ++ [(k, d)]))))
theorem mt_setdef {X : Cx} : MtR X "dict.setdefault" rSetDef := by
  intro pins s σ H x xs v us Q I rx rxs h
  obtain ⟨a, kvs, k, d, rfl, rfl, ha, hl, q1, q2⟩ := h
  cases rx
  obtain ⟨u1, u2, rfl, r1, r2⟩ := vals2 rxs
  obtain ⟨z, hd, vs, rel, dd⟩ := dk_of I.hok ha
  refine call_meetsIn PySem.F.slot_dict_setdefault dd.typeIs PySem.F.entry_dict_setdefault (PySem.F.args_dict_setdefault_3 _ _ _) (kt_meets_setdefault (mixKind X.prog X.w) (k := k) a (kV_is r1) hd u2)
    ⟨vs, dd, by rw [← rel.length]; exact z, fun v hv => ?_, fun hn h' dd' hs => ?_⟩
  · have r := rel.val k
    rw [hv] at r
    show EP X pins σ Q v _
    cases ev : valV kvs k with
    | none =>
      rw [ev] at r
      exact (show False from r).elim
    | some v0 =>
      rw [ev] at r
      exact ⟨v0, H, I.tok _, r, q1 v0 ev⟩
  · have r := rel.val k
    rw [hn] at r
    have ev : valV kvs k = none := by
      cases ev : valV kvs k with
      | none => rfl
      | some v0 =>
        rw [ev] at r
        exact (show False from r).elim
    have rr := rel.put k (y := d) (u := u2) r2
    rw [putK_new d ev] at rr
    have he : ∃ q, h'.get? a = some q := let ⟨q, _, _, hq, _⟩ := dd'; ⟨q, hq⟩
    have I2 : Inv X pins σ (upd H a (.dK (kvs ++ [(k, d)]))) { s with heap := h', toks := s.toks + 1 } :=
      d_write I (by rw [ha]; exact True.intro) hs he (dk_new (by rw [List.length_append, List.length_singleton]; omega) hd rr dd')
    show EP X pins σ Q u2 _
    exact ⟨d, _, I2, r2, q2 ev⟩
theorem valV_mem {κ : Type} [DecidableEq κ] {k : κ} {v : V} : ∀ {kvs : List (κ × V)}, valV kvs k = some v → (k, v) ∈ kvs
  | [], h => nomatch h
  | p :: r, h => by
    by_cases e : p.1 = k
    · rw [valV_pos e] at h
      cases h
      rw [← e]
      exact List.mem_cons_self
    · rw [valV_neg e] at h
      exact List.mem_cons_of_mem _ (valV_mem h)
theorem mem_valV {κ : Type} [DecidableEq κ] {k : κ} {v : V} : ∀ {kvs : List (κ × V)}, (kvs.map (·.1)).Nodup → (k, v) ∈ kvs → valV kvs k = some v
  | [], _, h => by cases h
  | p :: r, hn, h => by
    obtain ⟨h1, h2⟩ := List.nodup_cons.mp hn
    rcases List.mem_cons.mp h with e | h
    · rw [← e]
      exact valV_pos rfl
    · have e : ¬ p.1 = k := fun z => h1 (by show p.1 ∈ _; rw [z]; exact List.mem_map.mpr ⟨_, h, rfl⟩)
      rw [valV_neg e]
      exact mem_valV h2 h
section
variable {P : Program} {w : World} {K : PySem.W.Frag} {mg : Str → Option Value} {base : Heap}
/-! ### the packed form of a situation -/
def prD (x : Int × Int) : PyData := .tuple [.int x.1, .int x.2]
def pkD (s : Int) (ps : Prs) : PyData := .tuple [.int s, .tuple (ps.map prD)]
theorem pkL_snoc (c : Int) : ∀ (xs : List Int) (n : Nat), pkL n (xs ++ [c]) = pkL n xs ++ (if 0 < c then [(((n + xs.length : Nat) : Int), c)] else [])
  | [], n => by
    show pkL n [c] = _
    rw [pkL_cons]
    split <;> rfl
  | x :: xs, n => by
    show pkL n (x :: (xs ++ [c])) = _
    rw [pkL_cons, pkL_cons, pkL_snoc c xs (n + 1), List.length_cons, show n + 1 + xs.length = n + (xs.length + 1) by omega]
    split <;> rfl
theorem pkL_len : ∀ (n : Nat) (xs : List Int), (pkL n xs).length ≤ xs.length
  | _, [] => Nat.le_refl _
  | n, x :: xs => by
    have := pkL_len (n + 1) xs
    rw [pkL_cons]
    split
    · rw [List.length_cons, List.length_cons]; omega
    · rw [List.length_cons]; omega
theorem szn {n m : Nat} (h : n ≤ m) (hm : m ≤ 90000) : n < sizeLine := szl (by omega)
abbrev s_packed : Stmt := topS 1
theorem sc_packed : FnScope ["situation", "state", "counts", "place", "count"] ["situation"] (defScope s_packed) := ⟨rfl, rfl, rfl, by decide +kernel, rfl, by decide +kernel, by decide +kernel⟩
-- packed slots: situation=0 state=1 counts=2 place=3(None) count=4(None) globals: tuple enumerate
def spPacked (K : PySem.W.Frag) : Sp := fun vs H Q _ => ∃ (x : V) (s : Int) (cs : List Int), vs = [x] ∧ Sit K H x s cs ∧ cs.length ≤ 1000 ∧ ∀ H' p, Same H H' → Dp K H' (.ref p) (pkD s (pkL 0 cs)) → Q (.ref p) H'
theorem fd_packed {f : Addr} {fd : FuncData} (F : Fun K "packed" "packed" s_packed f fd) (m : mg "packed" = some (.ref f)) (B : Bt mg) : Fd P w K mg base "packed" ["situation"] 1 (spPacked K) := by
  refine ⟨f, fd, F.ok sc_packed (fun vs H Q E h => ?_) (fun cdv A outer s H vs Q E hr h => ?_), m, F.kp, F.binds (ps := ["situation"]) fun _ _ _ _ _ _ us hl => match us, hl with | [_], _ => rfl⟩
  · obtain ⟨x, s, cs, rfl, _⟩ := h
    rfl
  obtain ⟨x, s, cs, rfl, ⟨a, ca, rfl, ha, hca⟩, hl, q⟩ := h
  refine ⟨_, (pss_cons (ps_asg (pv 0) (pg_tup rfl (pgs_cons (pg_name (i := 1) sc_packed.nd rfl (Or.inl rfl)) (pgs_cons (pg_name (i := 2) sc_packed.nd rfl (Or.inl rfl)) pgs_nil))))
 (pss_one (ps_ret (pe_tup (pa_cons (pv 1) (pa_cons (pe_callTy call_tuple_of (by rfl) B.tuple (by decide +kernel) (pa_cons (pe_lc (own := [("place", 3), ("count", 4)]) (g := gTup K 2 (gCons (gName 3) (gCons (gName 4) gNil))) (by rfl) sc_packed.nd (pi_enum (by rfl) B.enumerate (pa_cons (pv 2) pa_nil)) (blkOk_by (own := [("place", 3), ("count", 4)]) (N := ["situation", "state", "counts", "place", "count"]) (sc := (defScope s_packed)) (by decide +kernel)) (fun _ _ _ _ _ => (pg_tup rfl (pgs_cons (pg_name (i := 3) sc_packed.nd rfl (Or.inl rfl)) (pgs_cons (pg_name (i := 4) sc_packed.nd rfl (Or.inl rfl)) pgs_nil)))) (fun _ _ _ _ _ => (pts_one (pt_cmpR op_gt (pv 4) pe_int (nomark _)))) (fun _ _ _ _ _ => (pe_tup (pa_cons (pv 3) (pa_cons (pv 4) pa_nil))))) pa_nil)) pa_nil)))))), ?_⟩
  refine ⟨_, rfl, a, _, rfl, ha, rfl, _, _, rfl, ?_⟩
  dsimp only [gName]
  refine ⟨_, _, rfl, ?_⟩
  dsimp only [gName]
  refine ⟨rfl, ?_⟩
  refine ⟨_, rfl, _, rfl, ca, _, rfl, hca, fun D nD => ?_⟩
  have sD : Same H (upd H D (.lst [])) := same_new nD
  refine ⟨fun i m H' => m = cs.length - i ∧ i ≤ cs.length ∧ Same H H' ∧ ∃ ys, H' D = some (.lst ys) ∧ DpAll K (Ho D H') ys ((pkL 0 (cs.take i)).map prD), ⟨cs.length, rfl, Nat.zero_le _, sD, [], upd_same, .nil⟩, ?_⟩
  rintro i m H' ⟨rfl, hi, sm, ys, eD, dy⟩
  by_cases lt : i < cs.length
  · have hc : cs[i]? = some cs[i] := List.getElem?_eq_getElem lt
    refine .inr ⟨⟨_, _, sm.seq hca, get_map hc⟩, fun H' => i + 1 ≤ cs.length ∧ Same H H' ∧ ∃ ys, H' D = some (.lst ys) ∧ DpAll K (Ho D H') ys ((pkL 0 (cs.take (i + 1))).map prD), fun H' h => ⟨cs.length - (i + 1), by omega, rfl, h⟩, ?_⟩
    rintro u H2 ⟨T, x, rfl, nT, rfl, hx⟩
    have hx := hx _ (sm.seq hca)
    rw [get_map hc] at hx
    cases hx
    have sT : Same H' (upd H' T (.tup [.int (i : Nat), .int cs[i]])) := same_new nT
    have eD2 := sT _ _ eD
    have dy2 := dpAll_mono (ho_same (B := D) sT) dy
    refine ⟨T, _, rfl, st upd_same, rfl, _, _, rfl, ?_⟩
    dsimp only [gName]
    refine ⟨_, _, rfl, ?_⟩
    dsimp only [gName]
    refine ⟨rfl, rfl, ?_⟩
    generalize upd H' T (.tup [.int (i : Nat), .int cs[i]]) = H2 at sT eD2 dy2
    refine ⟨_, rfl, _, _, rfl, rfl, _, rfl, ?_⟩
    rw [take_snoc hc, pkL_snoc, List.length_take, Nat.min_eq_left hi, Nat.zero_add]
    by_cases c0 : 0 < cs[i]
    · rw [decide_eq_true (show cs[i] > 0 from c0), if_pos c0]
      refine iteT ⟨_, rfl, _, rfl, szc 2, fun p np => ⟨ys, ?_, ?_, lt, ?_⟩⟩
      · exact (same_new np) _ _ eD2
      · have yl := dpa_len dy
        rw [List.length_map] at yl
        have := pkL_len 0 (cs.take i)
        rw [List.length_take] at this
        exact szn (show ys.length ≤ cs.length by omega) (by omega)
      · have pD : p ≠ D := fun e => by rw [e, eD2] at np; cases np
        refine ⟨Same.mut (sm.trans (sT.trans (same_new np))) nD, ys ++ [.ref p], upd_same, ?_⟩
        rw [List.map_append]
        refine dpa_app (dpAll_mono ((ho_same (same_new np)).trans ho_mut) dy2) (.cons (.tup (st ?_) (.cons (.int _) (.cons (.int _) .nil))) .nil)
        unfold Ho
        rw [if_neg pD, upd_ne pD]
        exact upd_same
    · rw [decide_eq_false (show ¬ cs[i] > 0 from c0), if_neg c0, List.append_nil]
      exact iteF ⟨lt, sm.trans sT, ys, eD2, dy2⟩
  · obtain rfl : i = cs.length := by omega
    refine .inl ⟨⟨_, sm.seq hca, by rw [List.length_map]; exact Nat.le_refl _⟩, ?_⟩
    rw [List.take_length] at dy
    refine ⟨D, ys, rfl, .inl ⟨sq eD, fun l nl => ?_⟩⟩
    refine ⟨szc 2, fun p np => q _ p (sm.trans ((same_new nl).trans (same_new np))) ?_⟩
    have sl : Same H' (upd H' l (.tup ys)) := same_new nl
    refine .tup (st upd_same) (dpAll_mono (same_new np) (.cons (.int _) (.cons (.tup (st upd_same) (dpAll_mono (ho_out.trans sl) dy)) .nil)))
end
/-- the items of a locked dict, each in a new pair -/
theorem for_items {d : Addr} {o : Obj} {kvs : List (L2.Key × V)} {g : TG} {tb : TS} {D : Ends} {σ : L2.St} {H : Hp} (Pv : Nat → L2.St → Hp → Prop) (h0 : Pv 0 σ H) (hl : ∀ i σ H, i ≤ kvs.length → Pv i σ H → H d = some (.frz o (.dK kvs)))
    (hs : ∀ i k v T σ H, kvs[i]? = some (k, v) → Pv i σ H → H T = none → g (.ref T) σ (upd H T (.tup [kV k, v])) fun σ2 H2 => tb { D with nx := Pv (i + 1), ct := Pv (i + 1), bk := D.nx } σ2 H2) (hd : ∀ σ H, Pv kvs.length σ H → D.nx σ H) :
    ∃ W : Nat → Nat → L2.St → Hp → Prop, (∃ m, W 0 m σ H) ∧ ∀ i m σ H, W i m σ H →
      ((Iti d o kvs).stop i H ∧ D.nx σ H) ∨ ((Iti d o kvs).go i H ∧ ∃ N : L2.St → Hp → Prop, (∀ σ' H', N σ' H' → ∃ m', m' < m ∧ W (i + 1) m' σ' H') ∧ ∀ x H', (Iti d o kvs).yld i H x H' → g x σ H' fun σ2 H2 => tb { D with nx := N, ct := N, bk := D.nx } σ2 H2) := by
  refine ⟨fun i m σ H => m = kvs.length - i ∧ i ≤ kvs.length ∧ Pv i σ H, ⟨kvs.length, by simp, Nat.zero_le _, h0⟩, ?_⟩
  rintro i m σ H ⟨rfl, hi, p⟩
  have q := hl i σ H hi p
  by_cases hlt : i < kvs.length
  · refine .inr ⟨⟨q, hlt⟩, Pv (i + 1), fun σ' H' p' => ⟨kvs.length - (i + 1), by omega, rfl, hlt, p'⟩, fun x H' y => ?_⟩
    obtain ⟨T, k, v, e1, rfl, nT, rfl⟩ := y
    exact hs i k v T σ H e1 p nT
  · have e : i = kvs.length := by omega
    subst e
    exact .inl ⟨⟨q, Nat.le_refl _⟩, hd σ H p⟩
theorem same_unlock {H H1 H2 : Hp} {b : Addr} {od : Obj} {u : HO} (s1 : Same H H1) (e : H1 b = some u) (s2 : Same (upd H1 b (.frz od u)) H2) : Same H (upd H2 b u) := fun c o h => by
  by_cases z : c = b
  · subst z
    rw [upd_same]
    exact (e.symm.trans (s1 _ _ h))
  · rw [upd_ne z]
    refine s2 _ _ ?_
    rw [upd_ne z]
    exact s1 _ _ h
theorem drop_hd {α : Type} {l : List α} {i : Nat} {x : α} (h : l[i]? = some x) : l.drop i = x :: l.drop (i + 1) := by
  obtain ⟨lt, e⟩ := List.getElem?_eq_some_iff.mp h
  rw [List.drop_eq_getElem_cons lt, e]
/-- lists and tuples stand as before -/
def MuO : HO → Prop
  | .dK _ => True
  | .ins _ _ _ => True
  | .ext _ => True
  | _ => False
def SameQ (H H' : Hp) : Prop := ∀ a o, H a = some o → ¬ MuO o → H' a = some o
theorem SameQ.rd {H H' : Hp} {a : Addr} {u : HO} (e : SameQ H H') (hu : ¬ MuO u) (h : Rd H a u) : Rd H' a u := by
  rcases h with h | ⟨o, h⟩
  · exact .inl (e _ _ h hu)
  · exact .inr ⟨o, e _ _ h (fun z => z)⟩
theorem SameQ.sqL {K : PySem.W.Frag} {H H' : Hp} {a : Addr} {xs : List V} (e : SameQ H H') (h : SqL K H a xs) : SqL K H' a xs := by
  rcases h with h | h
  · exact .inl (e.rd (fun z => z) h)
  · exact .inr h
theorem SameQ.sqT {K : PySem.W.Frag} {H H' : Hp} {a : Addr} {xs : List V} (e : SameQ H H') (h : SqT K H a xs) : SqT K H' a xs := by
  rcases h with h | h
  · exact .inl (e.rd (fun z => z) h)
  · exact .inr h
mutual
theorem dp_monoQ {K : PySem.W.Frag} {H H' : Hp} (e : SameQ H H') : ∀ {v : V} {d : PyData}, Dp K H v d → Dp K H' v d
  | _, .none, .non => .non
  | _, .bool _, .bl b => .bl b
  | _, .int _, .int i => .int i
  | _, .str _, .str x => .str x
  | _, .list _, .lst h a => .lst (e.sqL h) (dpAll_monoQ e a)
  | _, .tuple _, .tup h a => .tup (e.sqT h) (dpAll_monoQ e a)
theorem dpAll_monoQ {K : PySem.W.Frag} {H H' : Hp} (e : SameQ H H') : ∀ {vs : List V} {ds : List PyData}, DpAll K H vs ds → DpAll K H' vs ds
  | _, [], .nil => .nil
  | _, _ :: _, .cons h t => .cons (dp_monoQ e h) (dpAll_monoQ e t)
end
theorem same_lockQ {H H1 H3 : Hp} {b : Addr} {od : Obj} {kvs : List (L2.Key × V)} (s1 : Same H H1) (e : H1 b = some (.dK kvs)) (s3 : Same (upd H1 b (.frz od (.dK kvs))) H3) : SameQ H H3 := fun a o h hne => by
  have h1 := s1 _ _ h
  refine s3 _ _ ?_
  rw [upd_ne fun z => ?_]
  · exact h1
  · rw [z, e] at h1
    cases h1
    exact hne trivial
theorem put_quiet {H : Hp} {c : Addr} {u o : HO} (e : H c = some u) (m : MuO u) : SameQ H (upd H c o) := fun a v h hv => by
  rw [upd_ne fun z => ?_]
  · exact h
  · rw [z, e] at h
    cases h
    exact hv m
/-! ### the dicts of a tree -/
def CellF (F : Tri) (q : List Int) (n : Nat) (kvs : List (L2.Key × V)) : Prop :=
  (kvs.map (·.1)).Nodup ∧ kvs.length ≤ n ∧ (∀ kv ∈ kvs, ∃ k b, kv = (Sum.inl k, V.ref b) ∧ F (q ++ [k]) = some b) ∧ ∀ k b, F (q ++ [k]) = some b → (Sum.inl k, V.ref b) ∈ kvs
def TriU (H : Hp) (F : Tri) (p : List Int) (n : Nat) : Prop := ∀ q a, p <+: q → F q = some a → ∃ kvs, H a = some (.dK kvs) ∧ CellF F q n kvs
theorem CellF.val {F : Tri} {q : List Int} {n : Nat} {kvs : List (L2.Key × V)} (h : CellF F q n kvs) (k : Int) : valV kvs (Sum.inl k) = (F (q ++ [k])).map V.ref := by
  obtain ⟨h1, _, h3, h4⟩ := h
  cases e : F (q ++ [k]) with
  | some b => exact mem_valV h1 (h4 k b e)
  | none =>
    cases e2 : valV kvs (Sum.inl k) with
    | none => rfl
    | some v =>
      obtain ⟨k2, b, e3, e4⟩ := h3 _ (valV_mem e2)
      injection e3 with e3 _
      injection e3 with e3
      rw [← e3, e] at e4
      cases e4
theorem CellF.empty {F : Tri} {q : List Int} {n : Nat} {kvs : List (L2.Key × V)} (h : CellF F q n kvs) {a : Addr} (ha : F q = some a) : (kvs.isEmpty = true) ↔ EndF F q := by
  obtain ⟨_, _, h3, h4⟩ := h
  constructor
  · intro e
    refine ⟨(by rw [ha]; exact fun z => (nomatch z)), fun k => ?_⟩
    cases e2 : F (q ++ [k]) with
    | none => rfl
    | some b =>
      have := h4 k b e2
      rw [List.isEmpty_iff.mp e] at this
      cases this
  · rintro ⟨_, e⟩
    cases kvs with
    | nil => rfl
    | cons kv r =>
      obtain ⟨k, b, _, e2⟩ := h3 kv List.mem_cons_self
      rw [e k] at e2
      cases e2
theorem TriU.mono {H H' : Hp} {F : Tri} {p : List Int} {n : Nat} (s : Same H H') (h : TriU H F p n) : TriU H' F p n := fun q a hq e => by
  obtain ⟨kvs, h1, h2⟩ := h q a hq e
  exact ⟨kvs, s _ _ h1, h2⟩
theorem TriU.sub {H : Hp} {F : Tri} {p p' : List Int} {n : Nat} (s : p <+: p') (h : TriU H F p n) : TriU H F p' n := fun q a hq e => h q a (s.trans hq) e
theorem ap2 (p : List Int) (a b : Int) : (p ++ [a]) ++ [b] = p ++ [a, b] := by rw [List.append_assoc]; rfl
section
variable {P : Program} {w : World} {K : PySem.W.Frag} {mg : Str → Option Value} {base : Heap}
theorem dp_prs_at {H : Hp} {v : V} {ps : Prs} (h : Dp K H v (.tuple (ps.map prD))) : ∃ (a : Addr) (xs : List V), v = .ref a ∧ SqT K H a xs ∧ xs.length = ps.length ∧ ∀ (i : Nat) (x : Int × Int), ps[i]? = some x → ∃ t : Addr, xs[i]? = some (V.ref t) ∧ SqT K H t [.int x.1, .int x.2] := by
  obtain ⟨a, xs, rfl, h1, h2⟩ := dp_tup h
  refine ⟨a, xs, rfl, h1, by have := dpa_len h2; rw [List.length_map] at this; exact this, fun i x hx => ?_⟩
  obtain ⟨u, hu, du⟩ := dpa_at' h2 (show (ps.map prD)[i]? = some (prD x) by rw [List.getElem?_map, hx]; rfl)
  obtain ⟨t, ys, rfl, h3, h4⟩ := dp_tup du
  obtain ⟨v1, r1, rfl, d1, h4⟩ := dpa_cons h4
  obtain ⟨v2, r2, rfl, d2, h4⟩ := dpa_cons h4
  obtain rfl := dpa_nil h4
  rw [dp_int d1, dp_int d2] at h3
  exact ⟨t, hu, h3⟩
abbrev s_meets : Stmt := topS 3
theorem sc_meets : FnScope ["node", "pairs", "first", "at", "place", "count", "need", "inner"] ["node", "pairs", "first"] (defScope s_meets) := ⟨rfl, rfl, rfl, by decide +kernel, rfl, by decide +kernel, by decide +kernel⟩
-- meets slots: node=0 pairs=1 first=2 at=3 place=4 count=5 need=6 inner=7 globals: range len meets
def spMeets (K : PySem.W.Frag) (m : Nat) : Sp := fun vs H Q _ => ∃ (a : Addr) (v : V) (j : Nat) (F : Tri) (p : List Int) (n : Nat) (ps : Prs), vs = [.ref a, v, .int (j : Int)] ∧ WfT F ∧ F p = some a ∧ TriU H F p n ∧ Dp K H v (.tuple (ps.map prD)) ∧ j ≤ ps.length ∧ ps.length < j + m ∧ ps.length ≤ 1000 ∧
  ∀ H' (b : Bool), Same H H' → (b = true ↔ (EndF F p ∨ MtT F (ps.drop j) p)) → Q (.bl b) H'
theorem fd_meets {f : Addr} {fd : FuncData} (F : Fun K "meets" "meets" s_meets f fd) (mm : mg "meets" = some (.ref f)) (B : Bt mg) : ∀ n : Nat, Fd P w K mg base "meets" ["node", "pairs", "first"] (n + 1) (spMeets K n)
  | 0 => Fd.none F mm (F.binds (ps := ["node", "pairs", "first"]) fun _ _ _ _ _ _ us hl => match us, hl with | [_, _, _], _ => rfl) fun vs H Q E h => by
    obtain ⟨a, v, j, F, p, n, ps, _, _, _, _, _, h1, h2, _⟩ := h
    omega
  | lv + 1 => by
    have D_meets := fd_meets F mm B lv
    refine ⟨f, fd, F.ok sc_meets (fun vs H Q E h => ?_) (fun cdv A outer s H vs Q E hr h => ?_), mm, F.kp, F.binds (ps := ["node", "pairs", "first"]) fun _ _ _ _ _ _ us hl => match us, hl with | [_, _, _], _ => rfl⟩
    · obtain ⟨a, v, j, F, p, n, ps, rfl, _⟩ := h
      rfl
    obtain ⟨a, v, j, F, p, n, ps, rfl, wf, ha, ht, hv, hj, hlv, hlen, q⟩ := h
    obtain ⟨va, xs, rfl, hva, xl, hxs⟩ := dp_prs_at hv
    obtain ⟨kvs, hkv, cell⟩ := ht p a (List.prefix_refl _) ha
    have hemp := cell.empty ha
    refine ⟨_, (pss_cons (ps_if (pt_not (ptTru K (pv 0) (by intro _; rfl)))
 (pss_one (ps_ret pe_bl))
 pss_nil)
 (pss_cons (ps_for PassesOwn.never rfl (pi_range2 rfl B.range (pa_cons (pv 2) (pa_cons (pe_callB (cLen K) (by rfl) B.len PySem.boot_len (pa_cons (pv 1) pa_nil)) pa_nil))) (pg_name (i := 3) sc_meets.nd rfl (Or.inl rfl))
 (pss_cons (ps_asg (pe_ix (ixT K) (pv 1) (pv 3) (fun _ _ => rfl)) (pg_tup rfl (pgs_cons (pg_name (i := 4) sc_meets.nd rfl (Or.inl rfl)) (pgs_cons (pg_name (i := 5) sc_meets.nd rfl (Or.inl rfl)) pgs_nil))))
 (pss_one (ps_if (pt_cmp (pc_din (hu_of hr) (pv 4) (pv 0)))
 (pss_one (ps_lock (ps_for PassesOwn.never rfl (pi_items (pe_dget (hu_of hr) (pv 0) (pv 4) (fun _ _ => rfl))) (pg_tup rfl (pgs_cons (pg_name (i := 6) sc_meets.nd rfl (Or.inl rfl)) (pgs_cons (pg_name (i := 7) sc_meets.nd rfl (Or.inl rfl)) pgs_nil)))
 (pss_one (ps_if (PW.pt (pw_and (pt_cmpR op_le (pv 6) (pv 5) (nomark _)) (pw_and1 (pt_val (pe_fn D_meets hr rfl (pa_cons (pv 7) (pa_cons (pv 1) (pa_cons (pe_op op_add (pv 3) pe_int) pa_nil))))))))
 (pss_one (ps_ret pe_bl))
 pss_nil)))))
 pss_nil))))
 (pss_one (ps_ret pe_bl)))), ?_⟩
    refine ⟨_, rfl, !kvs.isEmpty, .inr (.inr ⟨kvs, hkv, rfl⟩), ?_⟩
    cases he : kvs.isEmpty with
    | true => exact iteTx rfl (q _ true (Same.refl _) ⟨fun _ => .inl (hemp.mp he), fun _ => rfl⟩)
    | false =>
      have ne : ¬ EndF F p := fun z => by rw [hemp.mpr z] at he; cases he
      refine iteFx rfl ?_
      refine ⟨_, rfl, _, rfl, _, _, rfl, .inr hva, (j : Int), (xs.length : Int), rfl, ⟨by omega, by omega, by omega, by omega⟩, ?_⟩
      have nn : ((xs.length : Int) - (j : Int)).toNat = ps.length - j := by omega
      rw [nn]
      refine for_range (fun i σ' H' => ∃ (y3 y4 y5 y6 y7 : Option V), σ' = [some (.ref a), some (.ref va), some (.int (j : Int)), y3, y4, y5, y6, y7] ∧ Same H H' ∧ (MtT F (ps.drop j) p ↔ MtT F (ps.drop (j + i)) p)) ⟨none, none, none, none, none, rfl, Same.refl _, by rw [Nat.add_zero]⟩ ?_ ?_
      · rintro i σ' H1 hi ⟨y3, y4, y5, y6, y7, rfl, s1, inv⟩
        have lt : j + i < ps.length := by omega
        have hx : ps[j + i]? = some ps[j + i] := List.getElem?_eq_getElem lt
        generalize ps[j + i] = x at hx
        obtain ⟨t, hxt, htt⟩ := hxs _ _ hx
        rw [drop_hd hx] at inv
        dsimp only [gName]
        refine ⟨_, rfl, _, rfl, va, xs, _, _, rfl, rfl, Same.seqT s1 hva, by rw [← Int.natCast_add]; exact atI_nat hxt, ?_⟩
        refine ⟨t, _, rfl, Same.seqT s1 htt, rfl, _, _, rfl, ?_⟩
        dsimp only [gName]
        refine ⟨_, _, rfl, ?_⟩
        dsimp only [gName]
        refine ⟨rfl, ?_⟩
        have hkv1 := s1 _ _ hkv
        refine ⟨_, rfl, _, rfl, a, valV kvs (Sum.inl x.1), rfl, .inl ⟨kvs, Sum.inl x.1, .inl hkv1, rfl, rfl⟩, _, rfl, ?_⟩
        rw [cell.val]
        cases eb : F (p ++ [x.1]) with
        | none =>
          refine iteFx rfl ?_
          refine ⟨_, _, _, _, _, rfl, s1, inv.trans ⟨fun z => ?_, .inr⟩⟩
          rcases z with ⟨n', _, z, _⟩ | z
          · refine absurd eb (wf.clo _ n' ?_)
            rw [ap2]
            exact z
          · exact z
        | some b =>
          refine iteTx rfl ?_
          obtain ⟨kvs2, hkv2, cell2⟩ := ht _ b (List.prefix_append _ _) eb
          have hb1 := s1 _ _ hkv2
          refine ⟨b, _, hb1, True.intro, fun od => ?_⟩
          have nab : a ≠ b := fun z => snoc_ne (wf.inj _ _ b eb (by rw [← z]; exact ha))
          refine ⟨_, rfl, _, rfl, a, V.ref b, rfl, .inl ⟨kvs, Sum.inl x.1, .inl (by rw [upd_ne nab]; exact hkv1), rfl, by rw [cell.val, eb]; rfl⟩, b, od, kvs2, rfl, upd_same, ?_⟩
          have below : ∀ q, (p ++ [x.1]) <+: q → q ≠ p ++ [x.1] → ∀ c, F q = some c → c ≠ b := fun q _ hne c hc z => hne (wf.inj _ _ b (by rw [← z]; exact hc) eb)
          refine for_items (fun i2 σ2 H2 => ∃ (y6 y7 : Option V), σ2 = [some (.ref a), some (.ref va), some (.int (j : Int)), some (.int ((j : Int) + (i : Nat))), some (.int x.1), some (.int x.2), y6, y7] ∧ Same (upd H1 b (.frz od (.dK kvs2))) H2 ∧
            ∀ n' b2, (Sum.inl n', V.ref b2) ∈ kvs2.take i2 → n' ≤ x.2 → ¬ (EndF F (p ++ [x.1, n']) ∨ MtT F (ps.drop (j + i + 1)) (p ++ [x.1, n']))) ⟨_, _, rfl, Same.refl _, fun n' b2 z => by cases z⟩ ?_ ?_ ?_
          · rintro i2 σ2 H2 _ ⟨y6, y7, rfl, s2, _⟩
            exact s2 _ _ upd_same
          · rintro i2 k2 v2 T σ2 H2 hk2 ⟨y6, y7, rfl, s2, inv2⟩ nT
            obtain ⟨n', b2, e3, e4⟩ := cell2.2.2.1 _ (List.mem_of_getElem? hk2)
            cases e3
            rw [ap2] at e4
            have s3 : Same H2 (upd H2 T (.tup [kV (Sum.inl n'), V.ref b2])) := same_new nT
            refine ⟨T, _, rfl, st upd_same, rfl, _, _, rfl, ?_⟩
            dsimp only [gName]
            refine ⟨_, _, rfl, ?_⟩
            dsimp only [gName]
            refine ⟨rfl, ?_⟩
            generalize upd H2 T (.tup [kV (Sum.inl n'), V.ref b2]) = H3 at s3
            have s13 := s2.trans s3
            refine ⟨_, rfl, _, rfl, _, _, rfl, rfl, _, rfl, ?_⟩
            have snoc2 : ∀ (b' : Bool), (b' = true ↔ (n' ≤ x.2 ∧ (EndF F (p ++ [x.1, n']) ∨ MtT F (ps.drop (j + i + 1)) (p ++ [x.1, n'])))) → b' = false → ∀ n'' b3, (Sum.inl n'', V.ref b3) ∈ kvs2.take (i2 + 1) → n'' ≤ x.2 → ¬ (EndF F (p ++ [x.1, n'']) ∨ MtT F (ps.drop (j + i + 1)) (p ++ [x.1, n''])) := fun b' hb e n'' b3 hm hle => by
              rw [take_snoc hk2] at hm
              rcases List.mem_append.mp hm with hm | hm
              · exact inv2 n'' b3 hm hle
              · cases List.mem_singleton.mp hm
                intro z
                rw [hb.mpr ⟨hle, z⟩] at e
                cases e
            by_cases hn : n' ≤ x.2
            · refine iteTx (decide_eq_true hn) ?_
              refine ⟨_, rfl, _, rfl, _, rfl, _, _, rfl, rfl, b2, .ref va, j + i + 1, F, p ++ [x.1, n'], n, ps, ?_, wf, e4, ?_, ?_, by omega, by omega, hlen, fun H4 b' s4 hb' => ?_⟩
              · rfl
              · intro q c hq hc
                have hq2 : p ++ [x.1] <+: q := (by rw [← ap2] at hq; exact (List.prefix_append _ _).trans hq)
                have hne : q ≠ p ++ [x.1] := fun z => by
                  have := hq.length_le
                  rw [z] at this
                  simp at this
                obtain ⟨kvs3, h5, h6⟩ := ht q c ((List.prefix_append p [x.1]).trans hq2) hc
                refine ⟨kvs3, s13 _ _ ?_, h6⟩
                rw [upd_ne (below q hq2 hne c hc)]
                exact s1 _ _ h5
              · exact dp_monoQ (same_lockQ s1 hb1 s13) hv
              · have s14 := s13.trans s4
                have su := same_unlock s1 hb1 s14
                refine ⟨_, rfl, ?_⟩
                cases b' with
                | true =>
                  refine iteTx rfl ⟨s14 _ _ upd_same, q _ true su ⟨fun _ => .inr ?_, fun _ => rfl⟩⟩
                  rw [inv]
                  exact .inl ⟨n', hn, (by rw [e4]; exact fun z => (nomatch z)), hb'.mp rfl⟩
                | false =>
                  refine iteFx rfl ?_
                  exact ⟨_, _, rfl, s14, snoc2 false ⟨fun z => (nomatch z), fun z => hb'.mpr z.2⟩ rfl⟩
            · refine iteFx (decide_eq_false hn) ?_
              exact ⟨_, _, rfl, s13, snoc2 false ⟨fun z => (nomatch z), fun z => absurd z.1 hn⟩ rfl⟩
          · rintro σ2 H2 ⟨y6, y7, rfl, s2, inv2⟩
            rw [List.take_length] at inv2
            refine ⟨s2 _ _ upd_same, _, _, _, _, _, rfl, same_unlock s1 hb1 s2, inv.trans ⟨fun z => ?_, .inr⟩⟩
            rcases z with ⟨n', hn, z1, z2⟩ | z
            · exfalso
              cases e5 : F (p ++ [x.1, n']) with
              | none => exact z1 e5
              | some b2 =>
                rw [← ap2] at e5
                exact inv2 n' b2 (cell2.2.2.2 _ _ e5) hn z2
            · exact z
      · rintro σ' H1 ⟨y3, y4, y5, y6, y7, rfl, s1, inv⟩
        refine q _ false s1 ⟨fun z => (nomatch z), fun z => ?_⟩
        rcases z with z | z
        · exact absurd z ne
        · rw [inv, show j + (ps.length - j) = ps.length by omega, List.drop_length] at z
          exact z.elim
end
/-! ### methods of a class -/
structure Md (P : Program) (w : World) (K : PySem.W.Frag) (mg : Str → Option Value) (base : Heap) (C : Addr) (x : Str) (ps : List Str) (k : Nat) (sp : Sp) : Prop where
  ex : ∃ (f : Addr) (fd : FuncData), FnOk P w K mg base CX0 k f fd ps sp ∧ Meth K C x f ∧ Binds K fd ps []
theorem pe_md {X : Cx} {C : Addr} {m : Str} {ps : List Str} {k : Nat} {sp : Sp} {E : Expr} {t : TE} (M : Md X.prog X.w X.K X.mg X.base C m ps k sp) (h : ∀ (f : Addr) (fd : FuncData), FnOk X.prog X.w X.K X.mg X.base CX0 k f fd ps sp → Meth X.K C m f → Binds X.K fd ps [] → PE X E t) : PE X E t := by
  obtain ⟨f, fd, G, hm, b⟩ := M.ex
  exact h f fd G hm b
structure Mkr (P : Program) (w : World) (K : PySem.W.Frag) (mg : Str → Option Value) (base : Heap) (C : Addr) (ps : List Str) (k : Nat) (sp : Sp) : Prop where
  ex : ∃ (f : Addr) (fd : FuncData), FnOk P w K mg base CX0 k f fd ps sp ∧ Mk K C f ∧ Binds K fd ps []
theorem pe_mkr {X : Cx} {C : Addr} {ps : List Str} {k : Nat} {sp : Sp} {E : Expr} {t : TE} (M : Mkr X.prog X.w X.K X.mg X.base C ps k sp) (h : ∀ (f : Addr) (fd : FuncData), FnOk X.prog X.w X.K X.mg X.base CX0 k f fd ps sp → Mk X.K C f → Binds X.K fd ps [] → PE X E t) : PE X E t := by
  obtain ⟨f, fd, G, mk, b⟩ := M.ex
  exact h f fd G mk b
/-! ### the heap while one more is kept -/
def FrF (F : Tri) (H H' : Hp) : Prop := ∀ b o, H b = some o → (∀ q, F q ≠ some b) → H' b = some o
def NewF (F G : Tri) (H : Hp) : Prop := ∀ q b, G q = some b → (∃ q', F q' = some b) ∨ H b = none
theorem FrF.of {F : Tri} {H H' : Hp} (s : Same H H') : FrF F H H' := fun b o h _ => s b o h
theorem FrF.trans {F G : Tri} {H H1 H2 : Hp} (a : FrF F H H1) (n : NewF F G H) (b : FrF G H1 H2) : FrF F H H2 := fun c o h hn => by
  refine b c o (a c o h hn) fun q hq => ?_
  rcases n q c hq with ⟨q', h'⟩ | h'
  · exact hn q' h'
  · rw [h] at h'; cases h'
theorem CellF.of {F : Tri} {q : List Int} {n : Nat} {kvs : List (L2.Key × V)} (h1 : (kvs.map (·.1)).Nodup) (h2 : kvs.length ≤ n) (h3 : ∀ kv ∈ kvs, ∃ k b, kv = ((Sum.inl k : L2.Key), V.ref b)) (h4 : ∀ k, valV kvs (Sum.inl k) = (F (q ++ [k])).map V.ref) : CellF F q n kvs := by
  refine ⟨h1, h2, fun kv hm => ?_, fun k b hb => ?_⟩
  · obtain ⟨k, b, rfl⟩ := h3 kv hm
    refine ⟨k, b, rfl, ?_⟩
    have := mem_valV h1 hm
    rw [h4] at this
    cases e : F (q ++ [k]) with
    | none => rw [e] at this; cases this
    | some c => rw [e] at this; cases this; rfl
  · refine valV_mem ?_
    rw [h4, hb]
    rfl
theorem CellF.le {F : Tri} {q : List Int} {n m : Nat} {kvs : List (L2.Key × V)} (h : CellF F q n kvs) (hnm : n ≤ m) : CellF F q m kvs := ⟨h.1, Nat.le_trans h.2.1 hnm, h.2.2⟩
theorem CellF.shape {F : Tri} {q : List Int} {n : Nat} {kvs : List (L2.Key × V)} (h : CellF F q n kvs) : ∀ kv ∈ kvs, ∃ k b, kv = ((Sum.inl k : L2.Key), V.ref b) := fun kv hm => by
  obtain ⟨k, b, e, _⟩ := h.2.2.1 kv hm
  exact ⟨k, b, e⟩
theorem TriU.le {H : Hp} {F : Tri} {p : List Int} {n m : Nat} (h : TriU H F p n) (hnm : n ≤ m) : TriU H F p m := fun q a hq e => by
  obtain ⟨kvs, h1, h2⟩ := h q a hq e
  exact ⟨kvs, h1, h2.le hnm⟩
theorem nd_put (k : L2.Key) (v : V) {kvs : List (L2.Key × V)} (h : (kvs.map (·.1)).Nodup) : ((putK kvs k v).map (·.1)).Nodup := by
  unfold putK
  split
  · rw [List.map_map]
    have : ((fun x : L2.Key × V => x.1) ∘ fun kv => if kv.1 = k then (kv.1, v) else kv) = fun x => x.1 := by
      funext x
      show (if x.1 = k then (x.1, v) else x).1 = x.1
      split <;> rfl
    rw [this]
    exact h
  · rename_i hn
    rw [List.map_append, List.nodup_append]
    refine ⟨h, by simp, fun a ha b hb => ?_⟩
    simp only [List.map_cons, List.map_nil, List.mem_singleton] at hb
    rintro rfl
    refine hn (List.any_eq_true.mpr ?_)
    obtain ⟨kv, h1, h2⟩ := List.mem_map.mp ha
    exact ⟨kv, h1, decide_eq_true (h2.trans hb)⟩
theorem shape_put {k : Int} {b : Addr} {kvs : List (L2.Key × V)} (h : ∀ kv ∈ kvs, ∃ k b, kv = ((Sum.inl k : L2.Key), V.ref b)) : ∀ kv ∈ putK kvs (Sum.inl k : L2.Key) (V.ref b), ∃ k b, kv = ((Sum.inl k : L2.Key), V.ref b) := fun kv hm => by
  unfold putK at hm
  split at hm
  · obtain ⟨x, hx, rfl⟩ := List.mem_map.mp hm
    obtain ⟨k1, b1, rfl⟩ := h x hx
    by_cases e : (Sum.inl k1 : L2.Key) = Sum.inl k
    · exact ⟨k1, b, by show (if (Sum.inl k1 : L2.Key) = Sum.inl k then _ else _) = _; rw [if_pos e]⟩
    · exact ⟨k1, b1, by show (if (Sum.inl k1 : L2.Key) = Sum.inl k then _ else _) = _; rw [if_neg e]⟩
  · rcases List.mem_append.mp hm with hm | hm
    · exact h kv hm
    · exact ⟨k, b, List.mem_singleton.mp hm⟩
theorem long_ne {p : List Int} {k : Int} {t : List Int} : (p ++ [k]) ++ t ≠ p := fun e => by
  have := congrArg List.length e
  rw [List.length_append, List.length_append, List.length_singleton] at this
  omega
/-- one dict more, or one in the place of another -/
theorem TriU.put {H : Hp} {G G' : Tri} {n : Nat} {p : List Int} {k : Int} {h nd : Addr} {kvs : List (L2.Key × V)} (t : TriU H G [] n) (wf : WfT G) (hp : G p = some h) (hk : H h = some (.dK kvs)) (cell : CellF G p n kvs) (nn : H nd = none)
    (at1 : G' (p ++ [k]) = some nd) (sub : ∀ j, G' ((p ++ [k]) ++ [j]) = none) (old : ∀ q a, q ≠ p ++ [k] → G' q = some a → G q = some a) (keep : ∀ q j, G' q ≠ none → q ++ [j] ≠ p ++ [k] → q ≠ p ++ [k] → G' (q ++ [j]) = G (q ++ [j])) :
    TriU (upd (upd H nd (.dK [])) h (.dK (putK kvs (Sum.inl k) (.ref nd)))) G' [] (n + 1) := fun q a _ e => by
  have nh : nd ≠ h := fun z => by rw [z, hk] at nn; cases nn
  by_cases e1 : q = p ++ [k]
  · subst e1
    rw [at1] at e
    cases e
    refine ⟨[], by rw [upd_ne nh]; exact upd_same, .of List.nodup_nil (Nat.zero_le _) (fun _ z => by cases z) fun j => ?_⟩
    rw [sub]
    rfl
  · have e2 := old q a e1 e
    by_cases e3 : q = p
    · subst e3
      obtain rfl : h = a := Option.some.inj (hp.symm.trans e2)
      refine ⟨_, upd_same, .of (nd_put _ _ cell.1) (Nat.le_trans (length_putK _ _ _) (Nat.succ_le_succ cell.2.1)) (shape_put cell.shape) fun j => ?_⟩
      rw [valV_put]
      by_cases ej : j = k
      · subst ej
        rw [if_pos rfl, at1]
        rfl
      · rw [if_neg fun z => ej (by cases z; rfl), cell.val, keep q j (by rw [e]; exact fun z => (nomatch z)) (fun z => ej (snoc_inj z).2) e1]
    · obtain ⟨kvs2, h5, h6⟩ := t q a List.nil_prefix e2
      have ah : a ≠ h := fun z => e3 (wf.inj _ _ h (by rw [← z]; exact e2) hp)
      have an : a ≠ nd := fun z => by rw [z, nn] at h5; cases h5
      refine ⟨kvs2, by rw [upd_ne ah, upd_ne an]; exact h5, .of h6.1 (Nat.le_succ_of_le h6.2.1) h6.shape fun j => ?_⟩
      rw [h6.val, keep q j (by rw [e]; exact fun z => (nomatch z)) (fun z => e3 (snoc_inj z).1) e1]
structure KeepI (H : Hp) (F : Tri) (H1 : Hp) (G : Tri) (hp : List Int) (n : Nat) : Prop where
  way : Way F G hp
  tri : TriU H1 G [] n
  frf : FrF F H H1
  new : NewF F G H
theorem KeepI.notin {H : Hp} {F : Tri} {H1 : Hp} {G : Tri} {hp : List Int} {n : Nat} (I : KeepI H F H1 G hp n) {nd : Addr} (nn : H1 nd = none) : ∀ q, G q ≠ some nd := fun q z => by
  obtain ⟨kvs, h1, _⟩ := I.tri q nd List.nil_prefix z
  rw [nn] at h1
  cases h1
theorem KeepI.free {H : Hp} {F : Tri} {H1 : Hp} {G : Tri} {hp : List Int} {n : Nat} (I : KeepI H F H1 G hp n) {nd : Addr} (nn : H1 nd = none) : H nd = none := by
  cases e : H nd with
  | none => rfl
  | some o =>
    have := I.frf nd o e fun q z => I.notin nn q (by rw [I.way.old q (by rw [z]; exact fun y => (nomatch y))]; exact z)
    rw [nn] at this
    cases this
theorem KeepI.mono {H : Hp} {F : Tri} {H1 H2 : Hp} {G : Tri} {hp : List Int} {n : Nat} (I : KeepI H F H1 G hp n) (s : Same H1 H2) : KeepI H F H2 G hp n :=
  ⟨I.way, I.tri.mono s, fun b o h hn => s _ _ (I.frf b o h hn), I.new⟩
theorem KeepI.there {H : Hp} {F : Tri} {H1 : Hp} {G : Tri} {hp : List Int} {n : Nat} {k : Int} {b : Addr} (I : KeepI H F H1 G hp n) (e : G (hp ++ [k]) = some b) : KeepI H F H1 G (hp ++ [k]) (n + 1) :=
  ⟨⟨I.way.wf, I.way.old, fun q h => (I.way.new q h).imp id fun z => z.trans (List.prefix_append _ _), by rw [e]; exact fun z => (nomatch z)⟩, I.tri.le (Nat.le_succ n), I.frf, I.new⟩
theorem KeepI.frame {H : Hp} {F : Tri} {H1 : Hp} {G : Tri} {hp : List Int} {n : Nat} {h nd : Addr} {o1 o2 : HO} (I : KeepI H F H1 G hp n) (hh : G hp = some h) (nn : H1 nd = none) : FrF F H (upd (upd H1 nd o1) h o2) := fun b o e hn => by
  have e1 := I.frf b o e hn
  have bn : b ≠ nd := ne_of_none e1 nn
  have bh : b ≠ h := fun z => by
    rcases I.new hp h hh with ⟨q', z2⟩ | z2
    · exact hn q' (by rw [z]; exact z2)
    · rw [z, z2] at e; cases e
  rw [upd_ne bh, upd_ne bn]
  exact e1
theorem KeepI.add {H : Hp} {F : Tri} {H1 : Hp} {G : Tri} {hp : List Int} {n : Nat} {k : Int} {h nd : Addr} {kvs : List (L2.Key × V)} (I : KeepI H F H1 G hp n) (hh : G hp = some h) (hk : H1 h = some (.dK kvs)) (cell : CellF G hp n kvs) (nn : H1 nd = none) (e : G (hp ++ [k]) = none) :
    KeepI H F (upd (upd H1 nd (.dK [])) h (.dK (kvs ++ [(Sum.inl k, .ref nd)]))) (addF G (hp ++ [k]) nd) (hp ++ [k]) (n + 1) := by
  have ni := I.notin nn
  have at1 : addF G (hp ++ [k]) nd (hp ++ [k]) = some nd := if_pos rfl
  have els : ∀ q, q ≠ hp ++ [k] → addF G (hp ++ [k]) nd q = G q := fun q hq => if_neg hq
  refine ⟨⟨I.way.wf.add (by rw [hh]; exact fun z => (nomatch z)) ni, fun q hq => ?_, fun q hq => ?_, by rw [at1]; exact fun z => (nomatch z)⟩, ?_, I.frame hh nn, fun q b hq => ?_⟩
  · rw [els q fun z => ?_]
    · exact I.way.old q hq
    · have := I.way.old q hq
      rw [z, e] at this
      exact hq (by rw [z]; exact this.symm)
  · by_cases e1 : q = hp ++ [k]
    · exact .inr (by rw [e1]; exact List.prefix_refl _)
    · rw [els q e1] at hq
      exact (I.way.new q hq).imp id fun z => z.trans (List.prefix_append _ _)
  · have pn : putK kvs (Sum.inl k : L2.Key) (V.ref nd) = kvs ++ [(Sum.inl k, V.ref nd)] := putK_new _ (by rw [cell.val, e]; rfl)
    rw [← pn]
    refine I.tri.put I.way.wf hh hk cell nn at1 (fun j => ?_) (fun q a hq he => ?_) fun q j _ h1 _ => els _ h1
    · rw [els _ snoc_ne]
      cases e2 : G ((hp ++ [k]) ++ [j]) with
      | none => rfl
      | some b => exact absurd e (I.way.wf.clo _ j (by rw [e2]; exact fun z => (nomatch z)))
    · rw [els q hq] at he
      exact he
  · by_cases e1 : q = hp ++ [k]
    · rw [e1, at1] at hq
      cases hq
      exact .inr (I.free nn)
    · rw [els q e1] at hq
      exact I.new q b hq
theorem KeepI.fin {H : Hp} {F : Tri} {H1 : Hp} {G : Tri} {hp : List Int} {n : Nat} {k : Int} {h nd : Addr} {kvs : List (L2.Key × V)} (I : KeepI H F H1 G hp n) (hh : G hp = some h) (hk : H1 h = some (.dK kvs)) (cell : CellF G hp n kvs) (nn : H1 nd = none) :
    WfT (finF G (hp ++ [k]) nd) ∧ TriU (upd (upd H1 nd (.dK [])) h (.dK (putK kvs (Sum.inl k) (.ref nd)))) (finF G (hp ++ [k]) nd) [] (n + 1) ∧ FrF F H (upd (upd H1 nd (.dK [])) h (.dK (putK kvs (Sum.inl k) (.ref nd)))) ∧ NewF F (finF G (hp ++ [k]) nd) H := by
  have ni := I.notin nn
  have at1 : finF G (hp ++ [k]) nd (hp ++ [k]) = some nd := if_pos rfl
  have out : ∀ q a, q ≠ hp ++ [k] → finF G (hp ++ [k]) nd q = some a → ¬ hp ++ [k] <+: q ∧ G q = some a := fun q a hq he => by
    unfold finF at he
    rw [if_neg hq] at he
    by_cases z : hp ++ [k] <+: q
    · rw [if_pos z] at he; cases he
    · rw [if_neg z] at he; exact ⟨z, he⟩
  refine ⟨I.way.wf.fin (by rw [hh]; exact fun z => (nomatch z)) ni, ?_, I.frame hh nn, fun q b hq => ?_⟩
  · refine I.tri.put I.way.wf hh hk cell nn at1 (fun j => ?_) (fun q a hq he => (out q a hq he).2) fun q j h1 h2 h3 => ?_
    · unfold finF
      rw [if_neg snoc_ne, if_pos (List.prefix_append _ _)]
    · cases e : finF G (hp ++ [k]) nd q with
      | none => exact absurd e h1
      | some a =>
        obtain ⟨z, _⟩ := out q a h3 e
        unfold finF
        rw [if_neg h2, if_neg fun y => ?_]
        rcases pre_snoc y with y | y
        · exact h2 y.symm
        · exact z y
  · by_cases e1 : q = hp ++ [k]
    · rw [e1, at1] at hq
      cases hq
      exact .inr (I.free nn)
    · exact I.new q b (out q b e1 hq).2
theorem KeepI.sdef {H : Hp} {F : Tri} {H1 : Hp} {G : Tri} {hp : List Int} {n : Nat} {k : Int} {h nd : Addr} {QQ : VK} (I : KeepI H F H1 G hp n) (hh : G hp = some h) (nn : H1 nd = none) (hn : n ≤ 90000)
    (q : ∀ b H2 G2, KeepI H F H2 G2 (hp ++ [k]) (n + 1) → G2 (hp ++ [k]) = some b → QQ (.ref b) H2) : rSetDef (.ref h) [.int k, .ref nd] (upd H1 nd (.dK [])) QQ := by
  obtain ⟨kvs, hk, cell⟩ := I.tri hp h List.nil_prefix hh
  have s1 : Same H1 (upd H1 nd (.dK [])) := same_new nn
  refine ⟨h, kvs, Sum.inl k, .ref nd, rfl, rfl, s1 _ _ hk, szn cell.2.1 hn, fun v hv => ?_, fun hv => ?_⟩
  · rw [cell.val] at hv
    cases e : G (hp ++ [k]) with
    | none => rw [e] at hv; cases hv
    | some b =>
      rw [e] at hv
      cases hv
      exact q b _ G ((I.mono s1).there e) e
  · rw [cell.val] at hv
    cases e : G (hp ++ [k]) with
    | some b => rw [e] at hv; cases hv
    | none => exact q nd _ _ (I.add hh hk cell nn e) (if_pos rfl)
/-! ### the floor -/
def fT (d : Addr) : List (Str × V) := putF "trees" (.ref d) []
theorem fT_at (d : Addr) : (fT d).lookup ("trees" : Str) = some (.ref d) := by
  unfold fT
  rw [lookup_putF, if_pos rfl]
theorem fT_no (d : Addr) {m : Str} (h1 : ¬ m = "trees") : (fT d).lookup m = none := by
  unfold fT
  rw [lookup_putF, if_neg h1]
  all_goals rfl
structure FloorAt (C : Addr) (H : Hp) (p : Addr) (F : Tri) (n : Nat) : Prop where
  ob : ∃ dx d, H p = some (.ins C dx (fT d)) ∧ F [] = some d
  wf : WfT F
  tri : TriU H F [] n
theorem FloorAt.mono {C : Addr} {H H' : Hp} {p : Addr} {F : Tri} {n : Nat} (h : FloorAt C H p F n) (s : Same H H') : FloorAt C H' p F n := ⟨let ⟨dx, d, h1, h2⟩ := h.ob; ⟨dx, d, s _ _ h1, h2⟩, h.wf, h.tri.mono s⟩
theorem FrF.quiet {F : Tri} {H H' : Hp} {n : Nat} (t : TriU H F [] n) (f : FrF F H H') : SameQ H H' := fun a o h hne => f a o h fun q z => by
  obtain ⟨kvs, h1, _⟩ := t q a List.nil_prefix z
  rw [h] at h1
  cases h1
  exact hne trivial
structure TxtF (K : PySem.W.Frag) (mg : Str → Option Value) (C : Addr) : Prop where
  cl : Cls K C
  nT : NoAttr K C "trees"
  mgC : mg "Floor" = some (.ref C)
section
variable {P : Program} {w : World} {K : PySem.W.Frag} {mg : Str → Option Value} {base : Heap}
abbrev s_Floor_keep : Stmt := inClass (topS 2) 1
theorem sc_Floor_keep : FnScope ["self", "situation", "state", "pairs", "holder", "key", "place", "count", "node"] ["self", "situation"] (defScope s_Floor_keep) := ⟨rfl, rfl, rfl, by decide +kernel, rfl, by decide +kernel, by decide +kernel⟩
-- Floor.keep slots: self=0 situation=1 state=2 pairs=3 holder=4 key=5 place=6 count=7 node=8 globals: 
def spKeep (K : PySem.W.Frag) (C : Addr) : Sp := fun vs H Q _ => ∃ (p : Addr) (v : V) (F : Tri) (n : Nat) (x : Int × Prs), vs = [.ref p, v] ∧ FloorAt C H p F n ∧ Dp K H v (pkD x.1 x.2) ∧ ¬ Und F x ∧ n + 2 * x.2.length + 1 ≤ 90000 ∧
  ∀ H' F', FloorAt C H' p F' (n + 2 * x.2.length + 1) → FrF F H H' → NewF F F' H → (∀ y, Und F' y ↔ Und F y ∨ (y.1 = x.1 ∧ SubP y.2 x.2)) → Q .non H'
theorem md_keep {f C : Addr} {fd : FuncData} (F : Fun K "keep" "Floor.keep" s_Floor_keep f fd) (T : TxtF K mg C) (mm : Meth K C "keep" f) : Md P w K mg base C "keep" ["self", "situation"] 1 (spKeep K C) := by
  refine ⟨f, fd, F.ok sc_Floor_keep (fun vs H Q E h => ?_) (fun cdv A outer s H vs Q E hr h => ?_), mm, F.binds (ps := ["self", "situation"]) fun _ _ _ _ _ _ us hl => match us, hl with | [_, _], _ => rfl⟩
  · obtain ⟨p, v, F, n, x, rfl, _⟩ := h
    rfl
  obtain ⟨p, v, F, n, x, rfl, fl, hv, nu, hn, q⟩ := h
  obtain ⟨dx, d, hp, hd⟩ := fl.ob
  obtain ⟨va, xs, rfl, hva, ha⟩ := dp_tup hv
  obtain ⟨v1, r1, rfl, d1, ha⟩ := dpa_cons ha
  obtain ⟨v2, r2, rfl, d2, ha⟩ := dpa_cons ha
  obtain rfl := dpa_nil ha
  rw [dp_int d1] at hva
  obtain ⟨pa, ys, rfl, hpa, yl, hys⟩ := dp_prs_at d2
  refine ⟨_, (pss_cons (ps_asg (pv 1) (pg_tup rfl (pgs_cons (pg_name (i := 2) sc_Floor_keep.nd rfl (Or.inl rfl)) (pgs_cons (pg_name (i := 3) sc_Floor_keep.nd rfl (Or.inl rfl)) pgs_nil))))
 (pss_cons (ps_set (i := 4) sc_Floor_keep.nd rfl (Or.inl rfl) (pe_fld (pv 0) rfl))
 (pss_cons (ps_set (i := 5) sc_Floor_keep.nd rfl (Or.inl rfl) (pv 2))
 (pss_cons (ps_for PassesOwn.never rfl (piT K (pv 3)) (pg_tup rfl (pgs_cons (pg_name (i := 6) sc_Floor_keep.nd rfl (Or.inl rfl)) (pgs_cons (pg_name (i := 7) sc_Floor_keep.nd rfl (Or.inl rfl)) pgs_nil)))
 (pss_cons (ps_set (i := 8) sc_Floor_keep.nd rfl (Or.inl rfl) (peBm K PySem.F.plainAttrs_dict PySem.F.slot_dict_setdefault PySem.F.type_dict_setdefault mt_setdef (pv 4) (pa_cons (pv 5) (pa_cons pe_dnewK pa_nil))))
 (pss_cons (ps_set (i := 4) sc_Floor_keep.nd rfl (Or.inl rfl) (peBm K PySem.F.plainAttrs_dict PySem.F.slot_dict_setdefault PySem.F.type_dict_setdefault mt_setdef (pv 8) (pa_cons (pv 6) (pa_cons pe_dnewK pa_nil))))
 (pss_one (ps_set (i := 5) sc_Floor_keep.nd rfl (Or.inl rfl) (pv 7))))))
 (pss_one (ps_dput (hu_of hr) (pv 4) (pv 5) pe_dnewK rfl)))))), ?_⟩
  refine ⟨_, rfl, va, _, rfl, hva, rfl, _, _, rfl, ?_⟩
  dsimp only [gName]
  refine ⟨_, _, rfl, ?_⟩
  dsimp only [gName]
  refine ⟨rfl, ?_⟩
  refine ⟨_, rfl, p, C, dx, _, _, rfl, hp, T.cl, T.nT, fT_at d, ?_⟩
  refine ⟨_, rfl, ?_⟩
  refine ⟨_, rfl, pa, rfl, ⟨_, hpa⟩, for_tup (xs := ys) (fun i σ' H1 => i ≤ x.2.length ∧ ∃ (G : Tri) (hq : List Int) (k : Int) (ha : Addr) (y6 y7 y8 : Option V), σ' = [some (.ref p), some (.ref va), some (.int x.1), some (.ref pa), some (.ref ha), some (.int k), y6, y7, y8] ∧
    KeepI H F H1 G hq (n + 2 * i) ∧ G hq = some ha ∧ hq ++ [k] = x.1 :: flatP (x.2.take i)) ?_ ?_ ?_ ?_⟩
  · exact ⟨Nat.zero_le _, F, [], x.1, d, none, none, none, rfl, ⟨⟨fl.wf, fun _ _ => rfl, fun q h => .inl h, by rw [hd]; exact fun z => (nomatch z)⟩, fl.tri, FrF.of (Same.refl _), fun q b h => .inl ⟨q, h⟩⟩, hd, rfl⟩
  · rintro i σ' H1 _ ⟨_, G, hq, k, ha, y6, y7, y8, rfl, I, _⟩
    exact (I.frf.quiet fl.tri).sqT hpa
  · rintro i u σ' H1 hu ⟨_, G, hq, k, h0, y6, y7, y8, rfl, I, hh, hpath⟩
    have lt : i < x.2.length := by rw [← yl]; exact (List.getElem?_eq_some_iff.mp hu).1
    have hx : x.2[i]? = some x.2[i] := List.getElem?_eq_getElem lt
    generalize x.2[i] = pr at hx
    obtain ⟨t, hyt, htt⟩ := hys _ _ hx
    rw [hu] at hyt
    cases hyt
    refine ⟨t, _, rfl, (I.frf.quiet fl.tri).sqT htt, rfl, _, _, rfl, ?_⟩
    dsimp only [gName]
    refine ⟨_, _, rfl, ?_⟩
    dsimp only [gName]
    refine ⟨rfl, ?_⟩
    have isd : ∀ {H3 : Hp} {G3 : Tri} {p3 : List Int} {n3 : Nat} {a3 : Addr}, KeepI H F H3 G3 p3 n3 → G3 p3 = some a3 → tyV K "dict" (.ref a3) H3 := fun I3 e3 => by
      obtain ⟨kvs, hkv, _⟩ := I3.tri _ _ List.nil_prefix e3
      exact .inr (.inr (.inl ⟨rfl, .inl ⟨_, hkv⟩⟩))
    refine ⟨_, rfl, isd I hh, _, rfl, fun nd nn => ?_⟩
    refine I.sdef hh nn (by omega) fun b2 H2 G2 I2 e2 => ?_
    dsimp only [gName]
    refine ⟨_, rfl, isd I2 e2, _, rfl, fun nd2 nn2 => ?_⟩
    refine I2.sdef e2 nn2 (by omega) fun b3 H3 G3 I3 e3 => ?_
    dsimp only [gName]
    refine ⟨_, rfl, ?_⟩
    dsimp only [gName]
    refine ⟨lt, G3, _, pr.2, b3, _, _, _, rfl, I3, e3, ?_⟩
    rw [take_snoc hx, flatP_app, hpath, ap2]
    rfl
  · rintro σ' H1 ⟨_, G, hq, k, h0, y6, y7, y8, rfl, I, hh, hpath⟩
    rw [yl, List.take_length] at hpath
    rw [yl] at I
    refine fun nd nn => ?_
    obtain ⟨kvs, hkv, cell⟩ := I.tri hq h0 List.nil_prefix hh
    have s1 : Same H1 (upd H1 nd (.dK [])) := same_new nn
    obtain ⟨w1, t1, f1, n1⟩ := I.fin (k := k) hh hkv cell nn
    refine ⟨_, rfl, _, rfl, h0, _, rfl, DPut.k (k := Sum.inl k) (s1 _ _ hkv) (szn cell.2.1 (by omega)), ?_⟩
    refine q _ _ ⟨⟨dx, d, f1 _ _ hp fun z hz => ?_, ?_⟩, w1, t1⟩ f1 n1 fun y => und_fin fl.wf I.way (I.notin nn) hpath nu y
    · obtain ⟨kz, hz2, _⟩ := fl.tri z p List.nil_prefix hz
      rw [hp] at hz2
      cases hz2
    · unfold finF
      rw [if_neg fun z => snoc_nil z.symm, if_neg fun z => snoc_nil (List.prefix_nil.mp z), I.way.old [] (by rw [hd]; exact fun z => (nomatch z))]
      exact hd
end
section
variable {P : Program} {w : World} {K : PySem.W.Frag} {mg : Str → Option Value} {base : Heap}
abbrev s_Floor_is_under : Stmt := inClass (topS 2) 2
theorem sc_Floor_is_under : FnScope ["self", "situation", "state", "pairs"] ["self", "situation"] (defScope s_Floor_is_under) := ⟨rfl, rfl, rfl, by decide +kernel, rfl, by decide +kernel, by decide +kernel⟩
-- Floor.is_under slots: self=0 situation=1 state=2 pairs=3 globals: meets
def spUnder (K : PySem.W.Frag) (C : Addr) (lv : Nat) : Sp := fun vs H Q _ => ∃ (p : Addr) (v : V) (F : Tri) (n : Nat) (x : Int × Prs), vs = [.ref p, v] ∧ FloorAt C H p F n ∧ Dp K H v (pkD x.1 x.2) ∧ x.2.length < lv ∧ x.2.length ≤ 1000 ∧
  ∀ H' (b : Bool), Same H H' → (b = true ↔ Und F x) → Q (.bl b) H'
theorem md_is_under {f C : Addr} {fd : FuncData} {lv : Nat} (F : Fun K "is_under" "Floor.is_under" s_Floor_is_under f fd) (T : TxtF K mg C) (mm : Meth K C "is_under" f) (D_meets : Fd P w K mg base "meets" ["node", "pairs", "first"] (lv + 1) (spMeets K lv)) : Md P w K mg base C "is_under" ["self", "situation"] (lv + 2) (spUnder K C lv) := by
  refine ⟨f, fd, F.ok sc_Floor_is_under (fun vs H Q E h => ?_) (fun cdv A outer s H vs Q E hr h => ?_), mm, F.binds (ps := ["self", "situation"]) fun _ _ _ _ _ _ us hl => match us, hl with | [_, _], _ => rfl⟩
  · obtain ⟨p, v, F, n, x, rfl, _⟩ := h
    rfl
  obtain ⟨p, v, F, n, x, rfl, fl, hv, hl1, hl2, q⟩ := h
  obtain ⟨dx, d, hp, hd⟩ := fl.ob
  obtain ⟨va, xs, rfl, hva, ha⟩ := dp_tup hv
  obtain ⟨v1, r1, rfl, d1, ha⟩ := dpa_cons ha
  obtain ⟨v2, r2, rfl, d2, ha⟩ := dpa_cons ha
  obtain rfl := dpa_nil ha
  rw [dp_int d1] at hva
  obtain ⟨kvs, hkv, cell⟩ := fl.tri [] d List.nil_prefix hd
  refine ⟨_, (pss_cons (ps_asg (pv 1) (pg_tup rfl (pgs_cons (pg_name (i := 2) sc_Floor_is_under.nd rfl (Or.inl rfl)) (pgs_cons (pg_name (i := 3) sc_Floor_is_under.nd rfl (Or.inl rfl)) pgs_nil))))
 (pss_one (ps_ret (pe_and (pe_cmp (pc_din (hu_of hr) (pv 2) (pe_fld (pv 0) rfl))) (pe_one (pe_fn D_meets hr rfl (pa_cons (pe_dget (hu_of hr) (pe_fld (pv 0) rfl) (pv 2) (fun _ _ => rfl)) (pa_cons (pv 3) (pa_cons pe_int pa_nil))))))))), ?_⟩
  refine ⟨_, rfl, va, _, rfl, hva, rfl, _, _, rfl, ?_⟩
  dsimp only [gName]
  refine ⟨_, _, rfl, ?_⟩
  dsimp only [gName]
  refine ⟨rfl, ?_⟩
  have hval := cell.val x.1
  have hget : DGet H d (.int x.1) (valV kvs (Sum.inl x.1)) := DGet.k (k := Sum.inl x.1) hkv
  refine ⟨_, rfl, _, rfl, p, C, dx, _, _, rfl, hp, T.cl, T.nT, fT_at d, d, _, rfl, hget, ?_⟩
  rw [hval]
  cases e : F ([] ++ [x.1]) with
  | none =>
    refine ⟨false, rfl, iteF ?_⟩
    exact q _ false (Same.refl _) ⟨fun z => (nomatch z), fun z => absurd e z.1⟩
  | some b =>
    refine ⟨true, rfl, iteT ?_⟩
    rw [e] at hval
    rw [hval] at hget
    refine ⟨_, rfl, p, C, dx, _, _, rfl, hp, T.cl, T.nT, fT_at d, _, rfl, d, V.ref b, rfl, hget, ?_⟩
    refine ⟨_, rfl, b, v2, 0, F, [] ++ [x.1], n, x.2, rfl, fl.wf, e, fl.tri.sub List.nil_prefix, d2, Nat.zero_le _, by omega, hl2, fun H' b' s' hb' => q _ b' s' (hb'.trans ⟨fun z => ⟨by show F ([] ++ [x.1]) ≠ none; rw [e]; exact fun z => (nomatch z), z⟩, fun z => z.2⟩)⟩
end
section
variable {P : Program} {w : World} {K : PySem.W.Frag} {mg : Str → Option Value} {base : Heap}
def pkx (x : Int × Prs) : PyData := pkD x.1 x.2
/-- above one of the list -/
def Ab (L : List (Int × Prs)) (y : Int × Prs) : Prop := ∃ x ∈ L, y.1 = x.1 ∧ SubP y.2 x.2
theorem ab_snoc {L : List (Int × Prs)} {x y : Int × Prs} : Ab (L ++ [x]) y ↔ Ab L y ∨ (y.1 = x.1 ∧ SubP y.2 x.2) := by
  constructor
  · rintro ⟨z, hz, h⟩
    rcases List.mem_append.mp hz with hz | hz
    · exact .inl ⟨z, hz, h⟩
    · rw [List.mem_singleton.mp hz] at h
      exact .inr h
  · rintro (⟨z, hz, h⟩ | h)
    · exact ⟨z, List.mem_append_left _ hz, h⟩
    · exact ⟨x, List.mem_append_right _ (List.mem_singleton.mpr rfl), h⟩
def szF : List (Int × Prs) → Nat
  | [] => 0
  | x :: r => (2 * x.2.length + 1) + szF r
theorem szF_app : ∀ a b : List (Int × Prs), szF (a ++ b) = szF a + szF b
  | [], b => by rw [List.nil_append]; show szF b = 0 + szF b; omega
  | x :: a, b => by
    show (2 * x.2.length + 1) + szF (a ++ b) = (2 * x.2.length + 1) + szF a + szF b
    rw [szF_app a b]
    omega
theorem szF_take (L : List (Int × Prs)) (i : Nat) : szF (L.take i) ≤ szF L := by
  have := szF_app (L.take i) (L.drop i)
  rw [List.take_append_drop] at this
  omega
/-- nothing but one object has changed -/
def FrO (p : Addr) (H H' : Hp) : Prop := ∀ b o, b ≠ p → H b = some o → H' b = some o
theorem FrO.quiet {p : Addr} {H H' : Hp} {C dx : Addr} {fs : List (Str × V)} (f : FrO p H H') (e : H p = some (.ins C dx fs)) : SameQ H H' := fun a o h hne => f a o (fun z => hne (by rw [z, e] at h; cases h; trivial)) h
abbrev s_Floor_init : Stmt := inClass (topS 2) 0
theorem sc_Floor_init : FnScope ["self", "situations", "situation"] ["self", "situations"] (defScope s_Floor_init) := ⟨rfl, rfl, rfl, by decide +kernel, rfl, by decide +kernel, by decide +kernel⟩
-- Floor.__init__ slots: self=0 situations=1 situation=2 globals: 
def spFInit (K : PySem.W.Frag) (C : Addr) : Sp := fun vs H Q _ => ∃ (p la dx : Addr) (xs : List V) (L : List (Int × Prs)), vs = [.ref p, .ref la] ∧ H p = some (.ins C dx []) ∧ SqL K H la xs ∧ DpAll K H xs (L.map pkx) ∧ szF L ≤ 90000 ∧ (∀ i x, L[i]? = some x → ¬ Ab (L.take i) x) ∧
  ∀ H' F, FloorAt C H' p F (szF L) → FrO p H H' → (∀ q b, F q = some b → H b = none) → (∀ y, Und F y ↔ Ab L y) → Q .non H'
theorem fd_Floor_init {f C : Addr} {fd : FuncData} (F : Fun K "__init__" "Floor.__init__" s_Floor_init f fd) (T : TxtF K mg C) (M_keep : Md P w K mg base C "keep" ["self", "situation"] 1 (spKeep K C)) : FnOk P w K mg base CX0 2 f fd ["self", "situations"] (spFInit K C) := by
  refine F.ok sc_Floor_init (fun vs H Q E h => ?_) (fun cdv A outer s H vs Q E hr h => ?_)
  · obtain ⟨p, la, dx, xs, L, rfl, _⟩ := h
    rfl
  obtain ⟨p, la, dx, xs, L, rfl, hp, hla, hd, hsz, inc, q⟩ := h
  have xl : xs.length = L.length := by have := dpa_len hd; rw [List.length_map] at this; exact this
  refine ⟨_, (pss_cons (ps_fld (pv 0) pe_dnewK rfl)
 (pss_one (ps_for PassesOwn.never rfl (piL K (pv 1)) (pg_name (i := 2) sc_Floor_init.nd rfl (Or.inl rfl))
 (pss_one (ps_expr (pe_md M_keep fun _ _ G hm b => pe_meth (pv 0) T.cl hm G (hr.mono (by decide)) b .nil pass0 (pa_cons (pv 2) pa_nil))))))), ?_⟩
  refine fun d nd => ?_
  have pd : p ≠ d := fun z => by rw [z, nd] at hp; cases hp
  refine ⟨_, rfl, p, C, dx, _, rfl, by rw [upd_ne pd]; exact hp, T.cl, T.nT, by decide, ?_⟩
  have e1 : (upd (upd H d (.dK [])) p (.ins C dx (putF "trees" (.ref d) []))) p = some (.ins C dx (fT d)) := upd_same
  have e2 : (upd (upd H d (.dK [])) p (.ins C dx (putF "trees" (.ref d) []))) d = some (.dK []) := by rw [upd_ne pd.symm]; exact upd_same
  have f1 : FrO p H (upd (upd H d (.dK [])) p (.ins C dx (putF "trees" (.ref d) []))) := fun b o hb h => by
    rw [upd_ne hb]
    exact (same_new nd) _ _ h
  generalize upd (upd H d (.dK [])) p (.ins C dx (putF "trees" (.ref d) [])) = H1 at e1 e2 f1 ⊢
  have fl0 : FloorAt C H1 p (fun q => if q = [] then some d else none) 0 := by
    refine ⟨⟨dx, d, e1, if_pos rfl⟩, ⟨by rw [if_pos rfl]; exact fun z => (nomatch z), fun q k h => absurd (if_neg snoc_nil) h, fun q r b h1 h2 => ?_⟩, fun q a _ e => ?_⟩
    · by_cases z1 : q = []
      · by_cases z2 : r = []
        · rw [z1, z2]
        · rw [if_neg z2] at h2; cases h2
      · rw [if_neg z1] at h1; cases h1
    · by_cases z1 : q = []
      · rw [if_pos z1] at e
        cases e
        exact ⟨[], e2, .of List.nodup_nil (Nat.le_refl _) (fun _ z => by cases z) fun k => by rw [if_neg snoc_nil]; rfl⟩
      · rw [if_neg z1] at e; cases e
  refine ⟨_, rfl, la, rfl, ⟨_, (f1.quiet hp).sqL hla⟩, for_list (xs := xs) (fun i σ' H2 => i ≤ L.length ∧ ∃ (F : Tri) (y2 : Option V), σ' = [some (.ref p), some (.ref la), y2] ∧ FloorAt C H2 p F (szF (L.take i)) ∧ FrO p H H2 ∧ (∀ q b, F q = some b → H b = none) ∧ ∀ y, Und F y ↔ Ab (L.take i) y) ?_ ?_ ?_ ?_⟩
  · refine ⟨Nat.zero_le _, _, none, rfl, fl0, f1, fun q b e => ?_, fun y => ⟨fun z => absurd (if_neg (by simp)) z.1, fun ⟨_, z, _⟩ => by cases z⟩⟩
    by_cases z1 : q = []
    · rw [if_pos z1] at e
      cases e
      exact nd
    · rw [if_neg z1] at e; cases e
  · rintro i σ' H2 _ ⟨_, F, y2, rfl, _, f2, _⟩
    exact (f2.quiet hp).sqL hla
  · rintro i u σ' H2 hu ⟨_, F, y2, rfl, fl, f2, n2, hu2⟩
    have lt : i < L.length := by rw [← xl]; exact (List.getElem?_eq_some_iff.mp hu).1
    have hx : L[i]? = some L[i] := List.getElem?_eq_getElem lt
    generalize L[i] = x at hx
    obtain ⟨u', hu', du⟩ := dpa_at' hd (show (L.map pkx)[i]? = some (pkx x) by rw [List.getElem?_map, hx]; rfl)
    obtain rfl : u = u' := Option.some.inj (hu.symm.trans hu')
    obtain ⟨dx2, d2, hp2, hd2⟩ := fl.ob
    have sz2 : szF (L.take (i + 1)) = szF (L.take i) + 2 * x.2.length + 1 := by
      rw [take_snoc hx, szF_app]
      show _ + ((2 * x.2.length + 1) + 0) = _
      omega
    have szle := szF_take L (i + 1)
    refine ⟨_, rfl, p, dx2, _, rfl, hp2, fT_no _ (by decide +kernel), ?_⟩
    refine ⟨_, rfl, p, u, F, szF (L.take i), x, rfl, fl, dp_monoQ (f2.quiet hp) du, fun z => inc i x hx ((hu2 x).mp z), by omega, fun H3 F3 fl3 fr3 nw3 un3 => ?_⟩
    have none2 : ∀ b, H2 b = none → H b = none := fun b hb => by
      cases e : H b with
      | none => rfl
      | some o =>
        by_cases z : b = p
        · rw [z, hp2] at hb; cases hb
        · rw [f2 b o z e] at hb; cases hb
    refine ⟨lt, F3, _, rfl, by rw [sz2]; exact fl3, fun b o hb h => fr3 b o (f2 b o hb h) fun q z => ?_, fun q b hq => ?_, fun y => ?_⟩
    · rw [n2 q b z] at h; cases h
    · rcases nw3 q b hq with ⟨q', z⟩ | z
      · exact n2 q' b z
      · exact none2 b z
    · rw [un3, hu2, take_snoc hx, ab_snoc]
  · rintro σ' H2 ⟨_, F, y2, rfl, fl, f2, n2, hu2⟩
    rw [xl, List.take_length] at fl hu2
    exact q H2 F fl f2 n2 hu2
theorem mkr_Floor {f C : Addr} {fd : FuncData} (F : Fun K "__init__" "Floor.__init__" s_Floor_init f fd) (T : TxtF K mg C) (mk : Mk K C f) (M_keep : Md P w K mg base C "keep" ["self", "situation"] 1 (spKeep K C)) : Mkr P w K mg base C ["self", "situations"] 2 (spFInit K C) :=
  ⟨f, fd, fd_Floor_init F T M_keep, mk, F.binds (ps := ["self", "situations"]) fun _ _ _ _ _ _ us hl => match us, hl with | [_, _], _ => rfl⟩
end
/-! ### a dict whose keys are nested tuples, each value True -/
def ndx (ks : List (NestedKey × Addr)) : List (NestedKey × Addr × Value) := ks.map fun x => (x.1, x.2, Value.bool true)
def ndP (P : Program) (w : World) (a : Addr) (ks : List (NestedKey × Addr)) (h : Heap) : Prop := ∃ o es ep, h.get? a = some o ∧ o.ExactDict ∧ o.data = .dict es ep ∧ es.toList = (ndx ks).map (entryOfKey (nestedKind P w)) ∧ ((ndx ks).map (·.1)).Nodup ∧ ks.length ≤ sizeLine ∧ (a == sysModules) = false
def NDo (P : Program) (w : World) (a : Addr) (ks : List (NestedKey × Addr)) : HO := .ext (ndP P w a ks)
/-- the keys stand -/
def NKs (K : PySem.W.Frag) (H : Hp) (ks : List (NestedKey × Addr)) : Prop := ∀ x ∈ ks, Dp K H (.ref x.2) x.1.data ∧ x.1.depth ≤ 8
theorem NKs.mono {K : PySem.W.Frag} {H H' : Hp} {ks : List (NestedKey × Addr)} (s : Same H H') (h : NKs K H ks) : NKs K H' ks := fun x hx => ⟨dp_mono s (h x hx).1, (h x hx).2⟩
theorem NKs.monoQ {K : PySem.W.Frag} {H H' : Hp} {ks : List (NestedKey × Addr)} (s : SameQ H H') (h : NKs K H ks) : NKs K H' ks := fun x hx => ⟨dp_monoQ s (h x hx).1, (h x hx).2⟩
mutual
theorem dp_keyT {K : PySem.W.Frag} {H H' : Hp} (e : ∀ a xs, H a = some (.tup xs) → H' a = some (.tup xs)) (e2 : ∀ a o xs, H a = some (.frz o (.tup xs)) → H' a = some (.frz o (.tup xs))) : ∀ (k : NestedKey) (v : V), Dp K H v k.data → Dp K H' v k.data
  | .none, v, h => by
    have h : Dp K H v PyData.none := h
    cases h
    exact .non
  | .num i, v, h => by
    rw [dp_int (show Dp K H v (.int i) from h)]
    exact .int i
  | .text x, v, h => by
    have h : Dp K H v (PyData.str x) := h
    cases h
    exact .str x
  | .tup ks, v, h => by
    obtain ⟨a, xs, rfl, h1, h2⟩ := dp_tup (show Dp K H v (.tuple (NestedKey.datas ks)) from h)
    refine .tup ?_ (dpa_keyT e e2 ks xs h2)
    rcases h1 with (h1 | ⟨o, h1⟩) | h1
    · exact .inl (.inl (e _ _ h1))
    · exact .inl (.inr ⟨o, e2 _ _ _ h1⟩)
    · exact .inr h1
theorem dpa_keyT {K : PySem.W.Frag} {H H' : Hp} (e : ∀ a xs, H a = some (.tup xs) → H' a = some (.tup xs)) (e2 : ∀ a o xs, H a = some (.frz o (.tup xs)) → H' a = some (.frz o (.tup xs))) : ∀ (ks : List NestedKey) (vs : List V), DpAll K H vs (NestedKey.datas ks) → DpAll K H' vs (NestedKey.datas ks)
  | [], vs, h => by
    rw [dpa_nil (show DpAll K H vs [] from h)]
    exact .nil
  | k :: ks, vs, h => by
    obtain ⟨v, t, rfl, h1, h2⟩ := dpa_cons (show DpAll K H vs (k.data :: NestedKey.datas ks) from h)
    exact .cons (dp_keyT e e2 k v h1) (dpa_keyT e e2 ks t h2)
end
theorem NKs.putL {K : PySem.W.Frag} {H : Hp} {c : Addr} {xs : List V} {o : HO} {ks : List (NestedKey × Addr)} (h : NKs K H ks) (e : H c = some (.lst xs)) : NKs K (upd H c o) ks := fun x hx =>
  ⟨dp_keyT (fun a ys h1 => by rw [upd_ne fun z => by rw [z, e] at h1; cases h1]; exact h1) (fun a o ys h1 => by rw [upd_ne fun z => by rw [z, e] at h1; cases h1]; exact h1) x.1 _ (h x hx).1, (h x hx).2⟩
theorem ndo_ok {P : Program} {w : World} {H : Hp} {h : Heap} {a : Addr} {ks : List (NestedKey × Addr)} (e : ndP P w a ks h) : ObjOk P w H h a (NDo P w a ks) := by
  refine ⟨e, ?_, fun h1 h2 x k => ?_⟩
  · obtain ⟨o, _, _, ho, _⟩ := e
    exact ⟨o, ho⟩
  · obtain ⟨o, es, ep, ho, r⟩ := x
    exact ⟨o, es, ep, k o ho, r⟩
section
variable {X : Cx} {pins : List (Addr × Obj)} {σ : L2.St} {H : Hp} {s : Shared}
mutual
theorem dp_nested (I : Inv X pins σ H s) : ∀ (k : NestedKey) (v : V) (u : Value), Dp X.K H v k.data → RelV v u → NestedIs s.heap k u
  | .none, v, u, h, r => by
    have h : Dp X.K H v PyData.none := h
    cases h
    cases (show u = Value.none from r)
    exact .none
  | .num i, v, u, h, r => by
    rw [dp_int (show Dp X.K H v (.int i) from h)] at r
    obtain ⟨t, rfl⟩ := (show ∃ t, u = Value.int i t from r)
    exact .int i t
  | .text x, v, u, h, r => by
    have h : Dp X.K H v (PyData.str x) := h
    cases h
    obtain ⟨t, rfl⟩ := (show ∃ t, u = Value.str x t from r)
    exact .text x t
  | .tup ks, v, u, h, r => by
    obtain ⟨a, xs, rfl, h1, h2⟩ := dp_tup (show Dp X.K H v (.tuple (NestedKey.datas ks)) from h)
    cases (show u = Value.ref a from r)
    obtain ⟨its, rv, ⟨o, h3, h4, n, h5⟩, _⟩ := I.tuple h1
    exact .tup h3 h4 h5 (dpa_nested I ks xs its h2 rv)
theorem dpa_nested (I : Inv X pins σ H s) : ∀ (ks : List NestedKey) (vs : List V) (us : List Value), DpAll X.K H vs (NestedKey.datas ks) → Vals vs us → NestedAll s.heap ks us
  | [], vs, us, h, r => by
    rw [dpa_nil (show DpAll X.K H vs [] from h)] at r
    cases r
    exact .nil
  | k :: ks, vs, us, h, r => by
    obtain ⟨v, t, rfl, h1, h2⟩ := dpa_cons (show DpAll X.K H vs (k.data :: NestedKey.datas ks) from h)
    cases r with
    | cons r1 r2 => exact .cons (dp_nested I k v _ h1 r1) (dpa_nested I ks t _ h2 r2)
end
theorem nd_dict {a : Addr} {ks : List (NestedKey × Addr)} (I : Inv X pins σ H s) (h : ObjOk X.prog X.w H s.heap a (NDo X.prog X.w a ks)) (hk : NKs X.K H ks) : s.heap.DictOfH (nestedKind X.prog X.w) a (ndx ks) := by
  obtain ⟨⟨o, es, ep, ho, h2, h3, h4, h5, _⟩, _⟩ := h
  refine ⟨o, es, ep, ho, h2, h3, h4, fun x hx => ?_, h5⟩
  obtain ⟨y, hy, rfl⟩ := List.mem_map.mp hx
  exact ⟨dp_nested I y.1 _ _ (hk y hy).1 rfl, (hk y hy).2⟩
theorem atKey_ndx {ks : List (NestedKey × Addr)} {k : NestedKey} : (atKey (ndx ks) k).isSome = (ks.map (·.1)).any (fun x => decide (x = k)) := by
  unfold atKey ndx
  rw [Option.isSome_map, List.isSome_find?, List.any_map, List.any_map]
  rfl
/-- is it there? -/
def rNotInN (P : Program) (w : World) (K : PySem.W.Frag) : R2 := fun x y H Q => ∃ (b d : Addr) (k : NestedKey) (ks : List (NestedKey × Addr)), x = .ref b ∧ y = .ref d ∧ H d = some (NDo P w d ks) ∧ NKs K H ks ∧ Dp K H (.ref b) k.data ∧ k.depth ≤ 8 ∧ Q (.bl (!(ks.map (·.1)).any (fun x => decide (x = k)))) H
theorem op_notInN (K : PySem.W.Frag) (hu : X.A.units + 64 < cLine) (h : X.K = K := by rfl) : OpR X (compareOp .NotIn) (rNotInN X.prog X.w K) := by
  subst h
  intro pins s σ H x y v u Q I rx ry h
  obtain ⟨b, d, k, ks, rfl, rfl, ed, hk, db, dk, q⟩ := h
  cases rx
  cases ry
  have ok := I.hok d _ ed
  have dd := nd_dict I ok hk
  obtain ⟨⟨_, _, _, _, _, _, _, _, _, low⟩, _⟩ := ok
  refine wpAny_notIn_heap (knd := nestedKind X.prog X.w) (show X.A.units + 1 + 8 < cLine by omega) ⟨dp_nested I k _ _ db rfl, dk⟩ low dd ?_
  rw [atKey_ndx]
  exact ⟨.bl _, H, I.tok _, rfl, q⟩
theorem ndx_snoc {ks : List (NestedKey × Addr)} {k : NestedKey} {b : Addr} : ndx (ks ++ [(k, b)]) = ndx ks ++ [(k, b, Value.bool true)] := by
  unfold ndx
  rw [List.map_append]
  rfl
/-- d[k] = True, the key new -/
def rSetN (P : Program) (w : World) (K : PySem.W.Frag) : TSet := fun o i v H Q => ∃ (b d : Addr) (k : NestedKey) (ks : List (NestedKey × Addr)), o = .ref d ∧ i = .ref b ∧ v = .bl true ∧ H d = some (NDo P w d ks) ∧ NKs K H ks ∧ Dp K H (.ref b) k.data ∧ k.depth ≤ 8 ∧ k ∉ ks.map (·.1) ∧ ks.length < sizeLine ∧ Q (upd H d (NDo P w d (ks ++ [(k, b)])))
theorem set_nd (K : PySem.W.Frag) (hu : X.A.units + 64 < cLine) (h : X.K = K := by rfl) : PSet X (rSetN X.prog X.w K) := by
  subst h
  intro pins s σ H o i v ov iv u Q I ro ri rv h
  obtain ⟨b, d, k, ks, rfl, rfl, rfl, ed, hk, db, dk, nk, hl, q⟩ := h
  cases ro
  cases ri
  cases rv
  have ok := I.hok d _ ed
  have dd := nd_dict I ok hk
  obtain ⟨⟨_, _, _, _, _, _, _, _, _, low⟩, _⟩ := ok
  have an : atKey (ndx ks) k = none := by
    cases e : atKey (ndx ks) k with
    | none => rfl
    | some p =>
      have z := atKey_ndx (ks := ks) (k := k)
      rw [e] at z
      obtain ⟨y, hy, e2⟩ := List.any_eq_true.mp z.symm
      rw [of_decide_eq_true e2] at hy
      exact absurd hy nk
  refine wpAny_setItem_heap (knd := nestedKind X.prog X.w) (hsz := by unfold ndx; rw [List.length_map]; omega) (show X.A.units + 1 + 8 < cLine by omega) ⟨dp_nested I k _ _ db rfl, dk⟩ dd fun h' dd' hs => ?_
  rw [storedH_new an, ← ndx_snoc] at dd'
  obtain ⟨o2, es, ep, h1, h2, h3, h4, _, h5⟩ := dd'
  exact ⟨_, d_write I (by rw [ed]; exact True.intro) hs ⟨o2, h1⟩ (ndo_ok ⟨o2, es, ep, h1, h2, h3, h4, h5, by rw [List.length_append, List.length_singleton]; omega, low⟩), q⟩
/-- a new one -/
def tDNewN (P : Program) (w : World) : TE := fun _ H Q => ∀ p, H p = none → Q (.ref p) (upd H p (NDo P w p []))
theorem pe_dnewN {pos : Pos} : PE X (.Dict [] [] pos) (tDNewN X.prog X.w) := ⟨fun pins s σ H Q I h =>
  wpAny_Dict_empty ⟨.ref s.heap.objs.size, _, I.laid (a := s.heap.objs.size) (o := NDo X.prog X.w s.heap.objs.size []) (t' := s.toks) (fun _ _ q => Heap.get?_push_of_some _ q) (Nat.le_refl _)
    (ndo_ok ⟨_, #[], 0, Heap.get?_push_size _ rfl, ⟨rfl, rfl, rfl⟩, rfl, rfl, List.nodup_nil, Nat.zero_le _, beq_eq_false_iff_ne.mpr (Ne.symm (Nat.ne_of_lt I.big))⟩), rfl, h _ (I.hok.fresh (Nat.le_refl _))⟩⟩
theorem Inv.frzN {d : Addr} {o : Obj} {ks : List (NestedKey × Addr)} (I : Inv X pins σ H s) (h : H d = some (.frz o (NDo X.prog X.w d ks))) :
    (d == sysModules) = false ∧ s.heap.get? d = some o ∧ o.ExactDict ∧ ∃ (es : Array DictEntry) (ep : Nat), o.data = .dict es ep ∧ es.size = ks.length ∧
      ∀ (i : Nat) (k : NestedKey) (b : Addr), ks[i]? = some (k, b) → ∃ en : DictEntry, es[i]? = some en ∧ en.key = .ref b := by
  obtain ⟨hd, ⟨o2, es, ep, h1, h2, h3, h4, _, _, low⟩, _⟩ := I.hok d _ h
  rw [hd] at h1
  cases h1
  refine ⟨low, hd, h2, es, ep, h3, ?_, fun i k b e => ?_⟩
  · rw [size_of_entries h4]
    exact List.length_map _
  · have q := entry_at h4 i
    have e2 : (ndx ks)[i]? = some (k, b, Value.bool true) := by
      unfold ndx
      rw [List.getElem?_map, e]
      rfl
    rw [e2] at q
    exact ⟨_, q, rfl⟩
end
/-- the keys of the locked dict, in their order -/
def ItN (P : Program) (w : World) (d : Addr) (o : Obj) (ks : List (NestedKey × Addr)) : It :=
  ⟨fun i H => H d = some (.frz o (NDo P w d ks)) ∧ i < ks.length, fun i H x H' => H' = H ∧ ∃ k b, ks[i]? = some (k, b) ∧ x = .ref b, fun i H => H d = some (.frz o (NDo P w d ks)) ∧ ks.length ≤ i⟩
theorem turn_keysN {P : Program} {w : World} {K : PySem.W.Frag} {tg : Expr} {d : Addr} {o : Obj} {es : Array DictEntry} {ep : Nat} {ks : List (NestedKey × Addr)} (it : Addr) (hod : o.data = .dict es ep) : Turn P w K tg (ItN P w d o ks) [it] it (fun i h => h.IsKeyIter it d i ks.length ep) where
  mem := by simp
  obj := fun i h st b hb => by
    have e : b = it := by simpa using hb
    subst e
    obtain ⟨oi, e, c, dd⟩ := st
    exact ⟨oi, e, fun v z => by rw [dd] at z; cases z⟩
  keep := fun i h h' st k => st.at fun oi e => k it (by simp) oi e
  item := by
    intro X hP hw hK hc i pins s σ H E I hf st hg
    subst hP hw hK
    obtain ⟨hd, hi⟩ := hg
    obtain ⟨f0, f1, f2, f3, f4, f5⟩ := hf it (by simp)
    obtain ⟨hs, hgd, hx, es', ep', hdt, hsz, ent⟩ := Inv.frzN I hd
    obtain ⟨rfl, rfl⟩ := dict_ep hod hdt
    obtain ⟨⟨k, b⟩, hkv⟩ : ∃ p, ks[i]? = some p := ⟨ks[i], List.getElem?_eq_getElem hi⟩
    obtain ⟨en, hen, hkey⟩ := ent i k b hkv
    refine next_key_item st hgd hdt hsz hen fun h' st' sb => ?_
    have I1 : Inv X pins σ H { s with heap := h' } := I.turned (t' := s.toks) (fun b ob hb e => (sb.2 b hb).trans e) f0 f1 f3 f4 f5
    obtain ⟨oi, e, c, dd⟩ := id st'
    exact ⟨en.key, rfl, go_of (s := { s with heap := h' }) e c dd (by decide) ⟨.ref b, H, I1, hkey, ⟨rfl, k, b, hkv, rfl⟩, st', fun b hb => (hf b hb).1⟩⟩
  done := by
    intro X hP hw hK hc i pins s σ H E I hf st hg
    subst hP hw hK
    obtain ⟨hd, hi⟩ := hg
    obtain ⟨f0, f1, f2, f3, f4, f5⟩ := hf it (by simp)
    obtain ⟨hs, hgd, hx, es', ep', hdt, hsz, ent⟩ := Inv.frzN I hd
    obtain ⟨rfl, rfl⟩ := dict_ep hod hdt
    exact next_key_end (I.ok.hd hc) st hgd hdt hsz hi fun h' eb => ⟨rfl, I.turned (t' := s.toks) (fun b ob hb e => eb b ob hb e) f0 f1 f3 f4 f5⟩
  self := fun A i s Q E st h => by
    refine wpAny_pyIter_slot st.typeIs PySem.F.slot_dict_keyiterator_iter (wpAny_call_entry PySem.F.slot_dict_keyiterator_iter st.typeIs PySem.F.entry_dict_keyiterator_iter ?_ (PySem.F.args_dict_keyiterator_iter_1 _))
    show wpAny _ _ (ret (.ref it)) _ _ s
    exact wpAny_pure ⟨_, rfl, "dict_keyiterator", _, st.typeIs, PySem.F.slot_dict_keyiterator_next.lookup, h⟩
def iKeysN (P : Program) (w : World) (td : TE) : TI := fun σ H R => td σ H fun x H1 => ∃ d o ks, x = .ref d ∧ H1 d = some (.frz o (NDo P w d ks)) ∧ R (ItN P w d o ks) H1
theorem pi_keysN {X : Cx} {tg e : Expr} {td : TE} (he : PE X e td) : PI X tg e (iKeysN X.prog X.w td) := by
  refine ⟨fun pins s σ H R I h => ?_⟩
  refine thn (he.run pins s σ H _ I h) fun u s1 ⟨x, H1, I1, rx, d, o, ks, ex, hd, q⟩ => ?_
  subst ex
  obtain rfl : u = Value.ref d := rx
  obtain ⟨hs, hgd, hx, es, ep, hdt, hsz, ent⟩ := Inv.frzN I1 hd
  refine iter_keys hs hgd hx hdt (pi_one (tk := s1.toks) I1 _ (turn_keysN _ hdt) ⟨_, Heap.get?_push_size _ rfl, rfl, ?_⟩ q)
  rw [hsz] <;> rfl
theorem for_keysN {P : Program} {w : World} {d : Addr} {o : Obj} {ks : List (NestedKey × Addr)} {g : TG} {tb : TS} {D : Ends} {σ : L2.St} {H : Hp} (Pv : Nat → L2.St → Hp → Prop) (h0 : Pv 0 σ H) (hl : ∀ i σ H, i ≤ ks.length → Pv i σ H → H d = some (.frz o (NDo P w d ks)))
    (hs : ∀ i k b σ H, ks[i]? = some (k, b) → Pv i σ H → g (.ref b) σ H fun σ2 H2 => tb { D with nx := Pv (i + 1), ct := Pv (i + 1), bk := D.nx } σ2 H2) (hd : ∀ σ H, Pv ks.length σ H → D.nx σ H) :
    ∃ W : Nat → Nat → L2.St → Hp → Prop, (∃ m, W 0 m σ H) ∧ ∀ i m σ H, W i m σ H →
      ((ItN P w d o ks).stop i H ∧ D.nx σ H) ∨ ((ItN P w d o ks).go i H ∧ ∃ N : L2.St → Hp → Prop, (∀ σ' H', N σ' H' → ∃ m', m' < m ∧ W (i + 1) m' σ' H') ∧ ∀ x H', (ItN P w d o ks).yld i H x H' → g x σ H' fun σ2 H2 => tb { D with nx := N, ct := N, bk := D.nx } σ2 H2) := by
  refine ⟨fun i m σ H => m = ks.length - i ∧ i ≤ ks.length ∧ Pv i σ H, ⟨ks.length, by simp, Nat.zero_le _, h0⟩, ?_⟩
  rintro i m σ H ⟨rfl, hi, p⟩
  have q := hl i σ H hi p
  by_cases hlt : i < ks.length
  · refine .inr ⟨⟨q, hlt⟩, Pv (i + 1), fun σ' H' p' => ⟨ks.length - (i + 1), by omega, rfl, hlt, p'⟩, fun x H' y => ?_⟩
    obtain ⟨rfl, k, b, e1, rfl⟩ := y
    exact hs i k b σ _ e1 p
  · have e : i = ks.length := by omega
    subst e
    exact .inl ⟨⟨q, Nat.le_refl _⟩, hd σ H p⟩
/-! ### the least ones, by their threads -/
def pk (x : Sn) : Int × Prs := (x.1, pkL 0 x.2)
def smS (x : Sn) : Int := x.2.sum
def NonN (S : List Sn) : Prop := ∀ x ∈ S, ∀ c ∈ x.2, 0 ≤ c
theorem geAll_sum : ∀ {xs ys : List Int}, xs.length = ys.length → geAll xs ys = true → ys.sum ≤ xs.sum ∧ (xs.sum ≤ ys.sum → xs = ys)
  | [], [], _, _ => ⟨Int.le_refl _, fun _ => rfl⟩
  | [], _ :: _, h, _ => by cases h
  | _ :: _, [], h, _ => by cases h
  | x :: xs, y :: ys, h, g => by
    have g : (decide (y ≤ x) && geAll xs ys) = true := g
    rw [Bool.and_eq_true, decide_eq_true_iff] at g
    obtain ⟨h1, h2⟩ := geAll_sum (Nat.succ.inj h) g.2
    rw [List.sum_cons, List.sum_cons]
    refine ⟨by omega, fun z => ?_⟩
    rw [h2 (by omega), show x = y by omega]
theorem cov_sum {x y : Sn} (hl : x.2.length = y.2.length) (c : covS x y = true) : smS y ≤ smS x ∧ (smS x ≤ smS y → x = y) := by
  obtain ⟨h1, h2⟩ := covS_iff.mp c
  obtain ⟨h3, h4⟩ := geAll_sum hl h2
  exact ⟨h3, fun z => Prod.ext h1 (h4 z)⟩
theorem sub_cov {n : Nat} {x y : Sn} (hx : x.2.length = n) (hy : y.2.length = n) (px : ∀ c ∈ x.2, 0 ≤ c) (py : ∀ c ∈ y.2, 0 ≤ c) : ((pk x).1 = (pk y).1 ∧ SubP (pk x).2 (pk y).2) ↔ covS x y = true := by
  rw [covS_iff]
  show (x.1 = y.1 ∧ SubP (pkL 0 x.2) (pkL 0 y.2)) ↔ _
  rw [subP_pk 0 x.2 y.2 (hx.trans hy.symm) px py]
theorem ab_cov {n : Nat} {L : List Sn} {x : Sn} (hL : Lens n L) (hx : x.2.length = n) (pL : NonN L) (px : ∀ c ∈ x.2, 0 ≤ c) : Ab (L.map pk) (pk x) ↔ ∃ y ∈ L, covS x y = true := by
  constructor
  · rintro ⟨z, hz, h⟩
    obtain ⟨y, hy, rfl⟩ := List.mem_map.mp hz
    exact ⟨y, hy, (sub_cov hx (hL y hy) px (pL y hy)).mp h⟩
  · rintro ⟨y, hy, h⟩
    exact ⟨pk y, List.mem_map.mpr ⟨y, hy, rfl⟩, (sub_cov hx (hL y hy) px (pL y hy)).mpr h⟩
theorem pk_inj {n : Nat} {x y : Sn} (hx : x.2.length = n) (hy : y.2.length = n) (px : ∀ c ∈ x.2, 0 ≤ c) (py : ∀ c ∈ y.2, 0 ≤ c) (e : pk x = pk y) : x = y := by
  have e1 : (pk x).1 = (pk y).1 := congrArg (fun z => z.1) e
  have e2 : (pk x).2 = (pk y).2 := congrArg (fun z => z.2) e
  have e1 : x.1 = y.1 := e1
  have e2 : pkL 0 x.2 = pkL 0 y.2 := e2
  exact Prod.ext e1 (pkL_inj 0 x.2 y.2 (hx.trans hy.symm) px py e2)
/-- what has been found among those that were looked at -/
structure Fnd (n : Nat) (S P L : List Sn) : Prop extends Mini P L where
  nd : L.Nodup
  inS : ∀ x ∈ P, x ∈ S
theorem Fnd.yes {n : Nat} {S P L : List Sn} {x : Sn} (h : Fnd n S P L) (hx : x ∈ S) (c : ∃ y ∈ L, covS x y = true) : Fnd n S (P ++ [x]) L := by
  refine ⟨⟨fun z hz => List.mem_append_left _ (h.sub z hz), fun z hz => ?_, h.anti⟩, h.nd, fun z hz => ?_⟩
  · rcases snoc_mem.mp hz with hz | rfl
    · exact h.cov z hz
    · exact c
  · rcases snoc_mem.mp hz with hz | rfl
    · exact h.inS z hz
    · exact hx
theorem Fnd.no {n : Nat} {S P L : List Sn} {x : Sn} (hS : Lens n S) (h : Fnd n S P L) (hx : x ∈ S) (c : ∀ y ∈ L, covS x y = false) (sm : ∀ y ∈ L, smS y ≤ smS x) : Fnd n S (P ++ [x]) (L ++ [x]) := by
  have lenL : ∀ y ∈ L, y.2.length = n := fun y hy => hS y (h.inS y (h.sub y hy))
  refine ⟨⟨fun z hz => ?_, fun z hz => ?_, fun a ha b hb e => ?_⟩, ?_, fun z hz => ?_⟩
  · rcases snoc_mem.mp hz with hz | rfl
    · exact List.mem_append_left _ (h.sub z hz)
    · exact snoc_mem.mpr (.inr rfl)
  · rcases snoc_mem.mp hz with hz | rfl
    · obtain ⟨y, hy, e⟩ := h.cov z hz
      exact ⟨y, List.mem_append_left _ hy, e⟩
    · exact ⟨z, snoc_mem.mpr (.inr rfl), covS_refl z⟩
  · rcases snoc_mem.mp ha with ha2 | ea
    · rcases snoc_mem.mp hb with hb2 | eb
      · exact h.anti a ha2 b hb2 e
      · rw [eb] at e ⊢
        exact (cov_sum ((lenL a ha2).trans (hS x hx).symm) e).2 (sm a ha2)
    · rw [ea] at e ⊢
      rcases snoc_mem.mp hb with hb2 | eb
      · rw [c b hb2] at e; cases e
      · exact eb.symm
  · rw [List.nodup_append]
    refine ⟨h.nd, by simp, fun a ha b hb e => ?_⟩
    rw [List.mem_singleton.mp hb] at e
    have := c a ha
    rw [e, covS_refl] at this
    cases this
  · rcases snoc_mem.mp hz with hz | rfl
    · exact h.inS z hz
    · exact hx
theorem Fnd.end' {n : Nat} {S P L : List Sn} (h : Fnd n S P L) (all : ∀ x ∈ S, x ∈ P) : Mini S L := ⟨fun x hx => h.inS x (h.sub x hx), fun x hx => h.cov x (all x hx), h.anti⟩
/-- one of the last found is above none before it -/
theorem Fnd.apart {n : Nat} {S P A B C : List Sn} {x : Sn} (h : Fnd n S P (A ++ (B ++ x :: C))) : ∀ y, y ∈ A ∨ y ∈ B → covS x y = false := fun y hy => by
  cases e : covS x y with
  | false => rfl
  | true =>
    exfalso
    have hy2 : y ∈ A ++ B := List.mem_append.mpr hy
    have hnd := h.nd
    rw [← List.append_assoc] at hnd
    have hx2 : x ∈ A ++ (B ++ x :: C) := List.mem_append_right _ (List.mem_append_right _ List.mem_cons_self)
    have hy3 : y ∈ A ++ (B ++ x :: C) := by rw [← List.append_assoc]; exact List.mem_append_left _ hy2
    have := h.anti x hx2 y hy3 e
    rw [List.nodup_append] at hnd
    exact hnd.2.2 y hy2 x List.mem_cons_self this.symm
/-! ### the keys -/
def nkP (x : Int × Prs) : NestedKey := .tup [.num x.1, .tup (x.2.map fun y => .tup [.num y.1, .num y.2])]
theorem nk_datas : ∀ ps : Prs, NestedKey.datas (ps.map fun y => .tup [.num y.1, .num y.2]) = ps.map prD
  | [] => rfl
  | y :: ps => by
    show NestedKey.data (.tup [.num y.1, .num y.2]) :: NestedKey.datas (ps.map fun y => .tup [.num y.1, .num y.2]) = prD y :: ps.map prD
    rw [nk_datas ps]
    rfl
theorem nk_data (x : Int × Prs) : (nkP x).data = pkx x := by
  show PyData.tuple [.int x.1, .tuple (NestedKey.datas (x.2.map fun y => .tup [.num y.1, .num y.2]))] = pkD x.1 x.2
  rw [nk_datas]
  rfl
theorem nk_dep : ∀ ps : Prs, NestedKey.depthAll (ps.map fun y => .tup [.num y.1, .num y.2]) ≤ 1
  | [] => Nat.zero_le _
  | y :: ps => by
    have := nk_dep ps
    show max (NestedKey.depth (.tup [.num y.1, .num y.2])) (NestedKey.depthAll (ps.map fun y => .tup [.num y.1, .num y.2])) ≤ 1
    exact Nat.max_le.mpr ⟨Nat.le_refl _, this⟩
theorem nk_depth (x : Int × Prs) : (nkP x).depth ≤ 8 := by
  have := nk_dep x.2
  show max 0 (max (NestedKey.depthAll (x.2.map fun y => .tup [.num y.1, .num y.2]) + 1) 0) + 1 ≤ 8
  omega
theorem nk_inj {x y : Int × Prs} (e : nkP x = nkP y) : x = y := by
  have h := congrArg NestedKey.data e
  rw [nk_data, nk_data] at h
  injection h with h
  injection h with h1 h
  injection h1 with h1
  injection h with h2 _
  injection h2 with h2
  refine Prod.ext h1 ?_
  have inj : ∀ a b : Prs, a.map prD = b.map prD → a = b := by
    intro a
    induction a with
    | nil => intro b hb; cases b with | nil => rfl | cons c b => cases hb
    | cons c a ih =>
      intro b hb
      cases b with
      | nil => cases hb
      | cons d b =>
        injection hb with hb1 hb2
        injection hb1 with hb1
        injection hb1 with a1 hb1
        injection a1 with a1
        injection hb1 with a2 _
        injection a2 with a2
        rw [ih b hb2, show c = d from Prod.ext a1 a2]
  exact inj _ _ h2
/-! ### situations by their threads -/
def oneM (M : Int → Option Addr) : Tri := fun q => match q with
  | [t] => M t
  | _ => none
abbrev grpZ (Z : List (V × Sn)) (t : Int) : List (V × Sn) := Z.filter fun z => decide (smS z.2 = t)
theorem grp_snoc (Z : List (V × Sn)) (z : V × Sn) (t : Int) : grpZ (Z ++ [z]) t = grpZ Z t ++ (if smS z.2 = t then [z] else []) := by
  unfold grpZ
  rw [List.filter_append]
  by_cases h : smS z.2 = t
  · rw [if_pos h, List.filter_cons_of_pos (by simpa using h)]
    rfl
  · rw [if_neg h, List.filter_cons_of_neg (by simpa using h)]
    rfl
theorem sdef_mono {x : V} {vs : List V} {H : Hp} {Q Q' : VK} (h : rSetDef x vs H Q) (m : ∀ v H', Q v H' → Q' v H') : rSetDef x vs H Q' := by
  obtain ⟨a, kvs, k, d, e1, e2, e3, e4, h1, h2⟩ := h
  exact ⟨a, kvs, k, d, e1, e2, e3, e4, fun v hv => m _ _ (h1 v hv), fun hv => m _ _ (h2 hv)⟩
structure GrpAt (H H1 : Hp) (D : Addr) (M : Int → Option Addr) (Z : List (V × Sn)) : Prop where
  dict : ∃ kvs, H1 D = some (.dK kvs) ∧ CellF (oneM M) [] Z.length kvs
  lists : ∀ t a, M t = some a → H1 a = some (.lst ((grpZ Z t).map (·.1)))
  inj : ∀ t t' a, M t = some a → M t' = some a → t = t'
  new : ∀ t a, M t = some a → H a = none
  newD : H D = none
  has : ∀ z ∈ Z, M (smS z.2) ≠ none
  only : ∀ t, M t ≠ none → ∃ z ∈ Z, smS z.2 = t
theorem GrpAt.mono {H H1 H2 : Hp} {D : Addr} {M : Int → Option Addr} {Z : List (V × Sn)} (g : GrpAt H H1 D M Z) (s : Same H1 H2) : GrpAt H H2 D M Z :=
  ⟨let ⟨kvs, h1, h2⟩ := g.dict; ⟨kvs, s _ _ h1, h2⟩, fun t a h => s _ _ (g.lists t a h), g.inj, g.new, g.newD, g.has, g.only⟩
theorem GrpAt.step {K : PySem.W.Frag} {H H1 : Hp} {D : Addr} {M : Int → Option Addr} {Z : List (V × Sn)} {x : V} {b : Sn} {nl : Addr} {Q : VK} (g : GrpAt H H1 D M Z) (s1 : Same H H1) (nn : H1 nl = none) (hz : Z.length ≤ 9000)
    (q : ∀ H2 M', Same H H2 → GrpAt H H2 D M' (Z ++ [(x, b)]) → Q .non H2) :
    rSetDef (.ref D) [.int (smS b), .ref nl] (upd H1 nl (.lst [])) (fun v H3 => tyV K "list" v H3 ∧ rAppend v [x] H3 Q) := by
  obtain ⟨kvs, hD, cell⟩ := g.dict
  have s2 : Same H1 (upd H1 nl (.lst [])) := same_new nn
  have nD : D ≠ nl := fun z => by rw [z, nn] at hD; cases hD
  have hval : valV kvs (Sum.inl (smS b)) = (M (smS b)).map V.ref := cell.val (smS b)
  have lsz : ∀ t, (grpZ Z t).length ≤ Z.length := fun t => List.length_filter_le _ _
  refine ⟨D, kvs, Sum.inl (smS b), .ref nl, rfl, rfl, s2 _ _ hD, szn cell.2.1 (by omega), fun v hv => ?_, fun hv => ?_⟩
  · rw [hval] at hv
    cases e : M (smS b) with
    | none => rw [e] at hv; cases hv
    | some a =>
      rw [e] at hv
      cases hv
      have ha := s2 _ _ (g.lists _ a e)
      have aD : a ≠ D := fun z => by rw [z, s2 _ _ hD] at ha; cases ha
      refine ⟨.inl ⟨rfl, _, sq ha⟩, a, _, x, rfl, rfl, ha, szn (m := Z.length) (by rw [List.length_map]; exact lsz _) (by omega), ?_⟩
      refine q _ M (Same.mut (s1.trans s2) (g.new _ a e)) ⟨⟨kvs, ?_, ?_⟩, fun t a' ht => ?_, g.inj, g.new, g.newD, fun z hz2 => ?_, fun t ht => ?_⟩
      · rw [upd_ne aD.symm]
        exact s2 _ _ hD
      · rw [List.length_append]
        exact cell.le (Nat.le_add_right _ _)
      · by_cases ea : a' = a
        · subst ea
          obtain rfl := g.inj _ _ _ ht e
          rw [upd_same, grp_snoc, if_pos rfl, List.map_append]
          rfl
        · rw [upd_ne ea, grp_snoc, if_neg fun z => ea (by rw [← z, e] at ht; cases ht; rfl), List.append_nil]
          exact s2 _ _ (g.lists t a' ht)
      · rcases List.mem_append.mp hz2 with h | h
        · exact g.has z h
        · rw [List.mem_singleton.mp h, e]
          exact fun z => (nomatch z)
      · obtain ⟨z, hz3, e3⟩ := g.only t ht
        exact ⟨z, List.mem_append_left _ hz3, e3⟩
  · rw [hval] at hv
    cases e : M (smS b) with
    | some a => rw [e] at hv; cases hv
    | none =>
      have e1 : (upd (upd H1 nl (.lst [])) D (.dK (kvs ++ [(Sum.inl (smS b), V.ref nl)]))) nl = some (.lst []) := by rw [upd_ne nD.symm]; exact upd_same
      have nlH : H nl = none := s1.free nn
      have notin : ∀ t, M t ≠ some nl := fun t z => by
        have := g.lists t nl z
        rw [nn] at this
        cases this
      have zero : grpZ Z (smS b) = [] := by
        refine List.filter_eq_nil_iff.mpr fun z hz2 z2 => ?_
        have := g.has z hz2
        rw [of_decide_eq_true z2] at this
        exact this e
      refine ⟨.inl ⟨rfl, _, sq e1⟩, nl, [], x, rfl, rfl, e1, szn (m := 0) (Nat.le_refl _) (by omega), ?_⟩
      refine q _ (fun t => if t = smS b then some nl else M t) (Same.mut (Same.mut (s1.trans s2) g.newD) nlH) ⟨⟨kvs ++ [(Sum.inl (smS b), V.ref nl)], ?_, ?_⟩, fun t a' ht => ?_, fun t t' a' h1 h2 => ?_, fun t a' ht => ?_, g.newD, fun z hz2 => ?_, fun t ht => ?_⟩
      · rw [upd_ne nD]
        exact upd_same
      · have pn : putK kvs (Sum.inl (smS b) : L2.Key) (V.ref nl) = kvs ++ [(Sum.inl (smS b), V.ref nl)] := putK_new _ (by rw [hval, e]; rfl)
        rw [← pn]
        refine .of (nd_put _ _ cell.1) (Nat.le_trans (length_putK _ _ _) ?_) (shape_put cell.shape) fun k => ?_
        · rw [List.length_append]
          exact Nat.succ_le_succ cell.2.1
        · rw [valV_put]
          show _ = Option.map V.ref (if k = smS b then some nl else M k)
          by_cases ek : k = smS b
          · rw [if_pos (by rw [ek]), if_pos ek]
            rfl
          · rw [if_neg fun z => ek (by cases z; rfl), if_neg ek]
            exact cell.val k
      · by_cases et : t = smS b
        · rw [if_pos et] at ht
          cases ht
          rw [upd_same, grp_snoc, et, zero, if_pos rfl]
          rfl
        · rw [if_neg et] at ht
          have an : a' ≠ nl := fun z => notin t (by rw [← z]; exact ht)
          have ha := g.lists t a' ht
          have aD : a' ≠ D := fun z => by rw [z, hD] at ha; cases ha
          rw [upd_ne an, upd_ne aD, grp_snoc, if_neg fun z => et z.symm, List.append_nil]
          exact s2 _ _ ha
      · by_cases et : t = smS b
        · rw [if_pos et] at h1
          cases h1
          by_cases et' : t' = smS b
          · rw [et, et']
          · rw [if_neg et'] at h2
            exact absurd h2 (notin t')
        · rw [if_neg et] at h1
          by_cases et' : t' = smS b
          · rw [if_pos et'] at h2
            cases h2
            exact absurd h1 (notin t)
          · rw [if_neg et'] at h2
            exact g.inj _ _ _ h1 h2
      · by_cases et : t = smS b
        · rw [if_pos et] at ht
          cases ht
          exact nlH
        · rw [if_neg et] at ht
          exact g.new _ _ ht
      · show (if smS z.2 = smS b then some nl else M (smS z.2)) ≠ none
        by_cases et : smS z.2 = smS b
        · rw [if_pos et]
          exact fun z => (nomatch z)
        · rw [if_neg et]
          rcases List.mem_append.mp hz2 with h | h
          · exact g.has z h
          · rw [List.mem_singleton.mp h] at et
            exact absurd rfl et
      · by_cases et : t = smS b
        · exact ⟨(x, b), List.mem_append_right _ (List.mem_singleton.mpr rfl), et.symm⟩
        · rw [if_neg et] at ht
          obtain ⟨z, hz3, e3⟩ := g.only t ht
          exact ⟨z, List.mem_append_left _ hz3, e3⟩
/-! ### what is new -/
def Gn (o1 r : Addr) (Hb H : Hp) : Hp := fun a => if a = o1 ∨ a = r ∨ (Hb a).isSome = true then none else H a
theorem gn_iff {o1 r a : Addr} {Hb H : Hp} {o : HO} : Gn o1 r Hb H a = some o ↔ a ≠ o1 ∧ a ≠ r ∧ Hb a = none ∧ H a = some o := by
  unfold Gn
  by_cases h : a = o1 ∨ a = r ∨ (Hb a).isSome = true
  · rw [if_pos h]
    refine ⟨fun z => (by cases z), ?_⟩
    rintro ⟨h1, h2, h3, _⟩
    rcases h with h | h | h
    · exact absurd h h1
    · exact absurd h h2
    · rw [h3] at h; cases h
  · rw [if_neg h]
    refine ⟨fun z => ⟨fun e => h (.inl e), fun e => h (.inr (.inl e)), ?_, z⟩, fun z => z.2.2.2⟩
    cases e : Hb a with
    | none => rfl
    | some u => exact absurd (.inr (.inr (by rw [e]; rfl))) h
theorem gn_out {o1 r : Addr} {Hb H : Hp} : Same (Gn o1 r Hb H) H := fun a o e => (gn_iff.mp e).2.2.2
theorem gn_same {o1 r : Addr} {Hb H H' : Hp} (s : Same H H') : Same (Gn o1 r Hb H) (Gn o1 r Hb H') := fun a o e => by
  obtain ⟨h1, h2, h3, h4⟩ := gn_iff.mp e
  exact gn_iff.mpr ⟨h1, h2, h3, s _ _ h4⟩
theorem gn_mut {o1 r c : Addr} {Hb H : Hp} {u : HO} (hc : c = o1 ∨ c = r) : Same (Gn o1 r Hb H) (Gn o1 r Hb (upd H c u)) := fun a o e => by
  obtain ⟨h1, h2, h3, h4⟩ := gn_iff.mp e
  refine gn_iff.mpr ⟨h1, h2, h3, ?_⟩
  rw [upd_ne (by rcases hc with rfl | rfl <;> assumption)]
  exact h4
/-- a new second list -/
theorem gn_turn {o1 r r' : Addr} {Hb H : Hp} {u : HO} (n : H r' = none) : Same (Gn o1 r Hb H) (Gn o1 r' Hb (upd H r' u)) := fun a o e => by
  obtain ⟨h1, h2, h3, h4⟩ := gn_iff.mp e
  have hne : a ≠ r' := fun z => by rw [z, n] at h4; cases h4
  refine gn_iff.mpr ⟨h1, hne, h3, ?_⟩
  rw [upd_ne hne]
  exact h4
theorem gn_less {o1 r : Addr} {Hb Hc H : Hp} (s : Same Hc Hb) : Same (Gn o1 r Hb H) (Gn o1 o1 Hc H) := fun a o e => by
  obtain ⟨h1, h2, h3, h4⟩ := gn_iff.mp e
  refine gn_iff.mpr ⟨h1, h1, ?_, h4⟩
  cases e : Hc a with
  | none => rfl
  | some u => rw [s _ _ e] at h3; cases h3
/-- what was there before may change -/
theorem gn_old {p c : Addr} {Hb H : Hp} {o u : HO} (e : Hb c = some o) : Same (Gn p p Hb H) (Gn p p Hb (upd H c u)) := fun a v h => by
  obtain ⟨h1, h2, h3, h4⟩ := gn_iff.mp h
  refine gn_iff.mpr ⟨h1, h2, h3, ?_⟩
  rw [upd_ne (fun z => by rw [z, e] at h3; cases h3)]
  exact h4
def FreshS (G : Hp) (v : V) (b : Sn) : Prop := ∃ t c, v = .ref t ∧ G t = some (.tup [.int b.1, .ref c]) ∧ G c = some (.lst (b.2.map V.int))
abbrev FreshL (G : Hp) : List V → List Sn → Prop := Paired (FreshS G)
theorem FreshL.mono {G G' : Hp} (s : Same G G') {vs : List V} {bs : List Sn} (h : FreshL G vs bs) : FreshL G' vs bs := Paired.mapP h fun _ _ ⟨t, c, e, h1, h2⟩ => ⟨t, c, e, s _ _ h1, s _ _ h2⟩
theorem FreshL.snoc {G : Hp} {v : V} {b : Sn} (h1 : FreshS G v b) : ∀ {vs : List V} {bs : List Sn}, FreshL G vs bs → FreshL G (vs ++ [v]) (bs ++ [b])
  | _, _, .nil => .cons h1 .nil
  | _, _, .cons h t => .cons h (FreshL.snoc h1 t)
theorem FreshL.dpa {K : PySem.W.Frag} {G : Hp} : ∀ {vs : List V} {bs : List Sn}, FreshL G vs bs → DpAll K G vs (bs.map sD)
  | _, _, .nil => .nil
  | _, _, .cons ⟨t, c, e, h1, h2⟩ r => .cons (sit_dp ⟨t, c, e, st h1, sq h2⟩) (FreshL.dpa r)
theorem FreshL.len {G : Hp} {vs : List V} {bs : List Sn} (h : FreshL G vs bs) : vs.length = bs.length := Paired.length h
theorem dpa_atS {K : PySem.W.Frag} {H : Hp} : ∀ {bs : List Sn} {xs : List V}, DpAll K H xs (bs.map sD) → ∀ {i : Nat} {b : Sn}, bs[i]? = some b → ∃ x, xs[i]? = some x ∧ Dp K H x (sD b)
  | [], _, _, i, b, hb => by simp at hb
  | c :: bs, xs, h, i, b, hb => by
    obtain ⟨v, r, rfl, h1, h2⟩ := dpa_cons h
    cases i with
    | zero => cases hb; exact ⟨v, rfl, h1⟩
    | succ i => exact dpa_atS h2 (i := i) hb
theorem dpa_lenS {K : PySem.W.Frag} {H : Hp} : ∀ {bs : List Sn} {xs : List V}, DpAll K H xs (bs.map sD) → xs.length = bs.length
  | [], _, h => by rw [dpa_nil h]; rfl
  | c :: bs, xs, h => by
    obtain ⟨v, r, rfl, h1, h2⟩ := dpa_cons h
    rw [List.length_cons, List.length_cons, dpa_lenS h2]
/-! ### what stands while the least ones are gathered -/
theorem nodup_len {α : Type} [DecidableEq α] : ∀ {L S : List α}, L.Nodup → (∀ x ∈ L, x ∈ S) → L.length ≤ S.length
  | [], _, _, _ => Nat.zero_le _
  | x :: L, S, hn, hs => by
    obtain ⟨h1, h2⟩ := List.nodup_cons.mp hn
    have hx := hs x List.mem_cons_self
    have ih := nodup_len (S := S.erase x) h2 fun y hy => (List.mem_erase_of_ne fun e => h1 (by rw [← e]; exact hy)).mpr (hs y (List.mem_cons_of_mem _ hy))
    rw [List.length_erase_of_mem hx] at ih
    have := List.length_pos_of_mem hx
    rw [List.length_cons]
    omega
theorem FreshL.quiet {o1 r : Addr} {Hb H H' : Hp} (s : SameQ H H') {vs : List V} {bs : List Sn} (h : FreshL (Gn o1 r Hb H) vs bs) : FreshL (Gn o1 r Hb H') vs bs := Paired.mapP h fun _ _ ⟨t, c, e, h1, h2⟩ => by
  obtain ⟨a1, a2, a3, a4⟩ := gn_iff.mp h1
  obtain ⟨b1, b2, b3, b4⟩ := gn_iff.mp h2
  exact ⟨t, c, e, gn_iff.mpr ⟨a1, a2, a3, s _ _ a4 (fun z => z)⟩, gn_iff.mpr ⟨b1, b2, b3, s _ _ b4 (fun z => z)⟩⟩
/-- no list, dict, object or tuple -/
def OthO : HO → Prop
  | .lst _ => False
  | .tup _ => False
  | .dK _ => False
  | .ins _ _ _ => False
  | _ => True
theorem FreshL.putX {o1 r c : Addr} {Hb H : Hp} {u o : HO} (e : H c = some u) (hu : OthO u) {vs : List V} {bs : List Sn} (h : FreshL (Gn o1 r Hb H) vs bs) : FreshL (Gn o1 r Hb (upd H c o)) vs bs := Paired.mapP h fun _ _ ⟨t, d, e1, h1, h2⟩ => by
  obtain ⟨a1, a2, a3, a4⟩ := gn_iff.mp h1
  obtain ⟨b1, b2, b3, b4⟩ := gn_iff.mp h2
  refine ⟨t, d, e1, gn_iff.mpr ⟨a1, a2, a3, ?_⟩, gn_iff.mpr ⟨b1, b2, b3, ?_⟩⟩
  · rw [upd_ne fun z => by rw [z, e] at a4; cases a4; exact hu]
    exact a4
  · rw [upd_ne fun z => by rw [z, e] at b4; cases b4; exact hu]
    exact b4
theorem ab_app {A B : List (Int × Prs)} {y : Int × Prs} : Ab (A ++ B) y ↔ Ab A y ∨ Ab B y := by
  constructor
  · rintro ⟨z, hz, h⟩
    rcases List.mem_append.mp hz with hz | hz
    · exact .inl ⟨z, hz, h⟩
    · exact .inr ⟨z, hz, h⟩
  · rintro (⟨z, hz, h⟩ | ⟨z, hz, h⟩)
    · exact ⟨z, List.mem_append_left _ hz, h⟩
    · exact ⟨z, List.mem_append_right _ hz, h⟩
structure SomeI (C : Addr) (H : Hp) (D kp fo lo : Addr) (M : Int → Option Addr) (Z : List (V × Sn)) (yi : List Int) (H' : Hp) (FF : Tri) (N : Nat) : Prop where
  same : Same H H'
  grp : GrpAt H H' D M Z
  keys : H' kp = some (.lst (yi.map V.int))
  fl : FloorAt C H' fo FF N
  ffn : ∀ q b, FF q = some b → H b = none ∧ b ≠ D
  nlo : H lo = none
  lo1 : ∀ t, M t ≠ some lo
  lo2 : lo ≠ kp
theorem keys_inl : ∀ {kvs : List (L2.Key × V)}, (∀ kv ∈ kvs, ∃ k b, kv = ((Sum.inl k : L2.Key), V.ref b)) → ∃ ks : List Int, kvs.map (·.1) = ks.map Sum.inl
  | [], _ => ⟨[], rfl⟩
  | kv :: r, h => by
    obtain ⟨k, b, rfl⟩ := h kv List.mem_cons_self
    obtain ⟨ks, e⟩ := keys_inl fun x hx => h x (List.mem_cons_of_mem _ hx)
    exact ⟨k :: ks, by rw [List.map_cons, List.map_cons, e]⟩
theorem keys_of {M : Int → Option Addr} {n : Nat} {kvs : List (L2.Key × V)} (c : CellF (oneM M) [] n kvs) : ∃ ks : List Int, kvs.map (·.1) = ks.map Sum.inl ∧ ks.Nodup ∧ ∀ t, t ∈ ks ↔ M t ≠ none := by
  obtain ⟨ks, e⟩ := keys_inl c.shape
  refine ⟨ks, e, ?_, fun t => ?_⟩
  · have := c.1
    rw [e] at this
    exact List.Pairwise.of_map Sum.inl (fun a b h z => h (by rw [z])) this
  · have hv : valV kvs (Sum.inl t) = (M t).map V.ref := c.val t
    constructor
    · intro ht z
      have hm : (Sum.inl t : L2.Key) ∈ kvs.map (·.1) := by rw [e]; exact List.mem_map.mpr ⟨t, ht, rfl⟩
      obtain ⟨kv, h1, h2⟩ := List.mem_map.mp hm
      have := mem_valV c.1 (show ((Sum.inl t : L2.Key), kv.2) ∈ kvs by rw [← h2]; exact h1)
      rw [hv, z] at this
      cases this
    · intro hm
      cases e2 : M t with
      | none => exact absurd e2 hm
      | some a =>
        rw [e2] at hv
        have h1 : (Sum.inl t : L2.Key) ∈ kvs.map (·.1) := List.mem_map.mpr ⟨_, valV_mem hv, rfl⟩
        rw [e] at h1
        obtain ⟨t', h2, h3⟩ := List.mem_map.mp h1
        cases h3
        exact h2
theorem strict_at {ys : List Int} {j : Nat} {t : Int} (p : ys.Pairwise (· ≤ ·)) (nd : ys.Nodup) (h : ys[j]? = some t) : ∀ t' ∈ ys.take j, t' < t := fun t' h' => by
  obtain ⟨lt, e⟩ := List.getElem?_eq_some_iff.mp h
  have e3 : ys = ys.take j ++ (t :: ys.drop (j + 1)) := by
    have : ys.drop j = t :: ys.drop (j + 1) := by rw [List.drop_eq_getElem_cons lt, e]
    rw [← this, List.take_append_drop]
  rw [e3] at p nd
  have h1 := (List.pairwise_append.mp p).2.2 t' h' t List.mem_cons_self
  have h2 := (List.nodup_append.mp nd).2.2 t' h' t List.mem_cons_self
  omega
section
variable {C : Addr} {H : Hp} {D kp fo lo : Addr} {M : Int → Option Addr} {Z : List (V × Sn)} {yi : List Int} {H' : Hp} {FF : Tri} {N : Nat}
theorem SomeI.mono {H2 : Hp} (I : SomeI C H D kp fo lo M Z yi H' FF N) (s : Same H' H2) : SomeI C H D kp fo lo M Z yi H2 FF N :=
  ⟨I.same.trans s, I.grp.mono s, s _ _ I.keys, I.fl.mono s, I.ffn, I.nlo, I.lo1, I.lo2⟩
theorem SomeI.put {c : Addr} {o : HO} (I : SomeI C H D kp fo lo M Z yi H' FF N) (hc : H c = none) (h1 : c ≠ D) (h2 : ∀ t, M t ≠ some c) (h3 : c ≠ kp) (h4 : c ≠ fo) (h5 : ∀ q, FF q ≠ some c) : SomeI C H D kp fo lo M Z yi (upd H' c o) FF N := by
  refine ⟨Same.mut I.same hc, ⟨?_, fun t a h => ?_, I.grp.inj, I.grp.new, I.grp.newD, I.grp.has, I.grp.only⟩, ?_, ⟨?_, I.fl.wf, fun q a hq e => ?_⟩, I.ffn, I.nlo, I.lo1, I.lo2⟩
  · obtain ⟨kvs, e1, e2⟩ := I.grp.dict
    exact ⟨kvs, by rw [upd_ne h1.symm]; exact e1, e2⟩
  · rw [upd_ne fun z => h2 t (by rw [← z]; exact h)]
    exact I.grp.lists t a h
  · rw [upd_ne h3.symm]
    exact I.keys
  · obtain ⟨dx, d, e1, e2⟩ := I.fl.ob
    exact ⟨dx, d, by rw [upd_ne h4.symm]; exact e1, e2⟩
  · obtain ⟨kvs, e1, e2⟩ := I.fl.tri q a hq e
    exact ⟨kvs, by rw [upd_ne fun z => h5 q (by rw [← z]; exact e)]; exact e1, e2⟩
theorem SomeI.lo3 {ls : List V} (I : SomeI C H D kp fo lo M Z yi H' FF N) (e : H' lo = some (.lst ls)) : lo ≠ D ∧ lo ≠ fo ∧ ∀ q, FF q ≠ some lo := by
  refine ⟨fun z => ?_, fun z => ?_, fun q z => ?_⟩
  · obtain ⟨kvs, e1, _⟩ := I.grp.dict
    rw [← z, e] at e1; cases e1
  · obtain ⟨dx, d, e1, _⟩ := I.fl.ob
    rw [← z, e] at e1; cases e1
  · obtain ⟨kvs, e1, _⟩ := I.fl.tri q lo List.nil_prefix z
    rw [e] at e1; cases e1
theorem SomeI.putLo {ls ls' : List V} (I : SomeI C H D kp fo lo M Z yi H' FF N) (e : H' lo = some (.lst ls)) : SomeI C H D kp fo lo M Z yi (upd H' lo (.lst ls')) FF N := by
  obtain ⟨h1, h2, h3⟩ := I.lo3 e
  exact I.put I.nlo h1 I.lo1 I.lo2 h2 h3
theorem SomeI.putX {c : Addr} {u o : HO} (I : SomeI C H D kp fo lo M Z yi H' FF N) (hc : H c = none) (e : H' c = some u) (hu : OthO u) : SomeI C H D kp fo lo M Z yi (upd H' c o) FF N := by
  refine I.put hc (fun z => ?_) (fun t z => ?_) (fun z => ?_) (fun z => ?_) fun q z => ?_
  · obtain ⟨kvs, e1, _⟩ := I.grp.dict
    rw [← z, e] at e1; cases e1; exact hu
  · have := I.grp.lists t c z
    rw [e] at this; cases this; exact hu
  · have := I.keys
    rw [← z, e] at this; cases this; exact hu
  · obtain ⟨dx, d, e1, _⟩ := I.fl.ob
    rw [← z, e] at e1; cases e1; exact hu
  · obtain ⟨kvs, e1, _⟩ := I.fl.tri q c List.nil_prefix z
    rw [e] at e1; cases e1; exact hu
theorem SomeI.kept {H2 : Hp} {F2 : Tri} {N2 : Nat} (I : SomeI C H D kp fo lo M Z yi H' FF N) (fl : FloorAt C H2 fo F2 N2) (fr : FrF FF H' H2) (nw : NewF FF F2 H') : SomeI C H D kp fo lo M Z yi H2 F2 N2 := by
  have sq := fr.quiet I.fl.tri
  have nl : ∀ xs : List V, ¬ MuO (.lst xs) := fun xs z => z
  refine ⟨fun b o e => fr b o (I.same b o e) fun q z => ?_, ⟨?_, fun t a h => sq _ _ (I.grp.lists t a h) (nl _), I.grp.inj, I.grp.new, I.grp.newD, I.grp.has, I.grp.only⟩, sq _ _ I.keys (nl _), fl, fun q b h => ?_, I.nlo, I.lo1, I.lo2⟩
  · rw [(I.ffn q b z).1] at e; cases e
  · obtain ⟨kvs, e1, e2⟩ := I.grp.dict
    exact ⟨kvs, fr _ _ e1 fun q z => (I.ffn q D z).2 rfl, e2⟩
  · rcases nw q b h with ⟨q', h'⟩ | h'
    · exact I.ffn q' b h'
    · refine ⟨I.same.free h', fun z => ?_⟩
      obtain ⟨kvs, e1, _⟩ := I.grp.dict
      rw [z, e1] at h'; cases h'
end
section
variable {P : Program} {w : World} {K : PySem.W.Frag} {mg : Str → Option Value} {base : Heap}
def PreL (lv n : Nat) (bs : List Sn) : Prop := NonN bs ∧ bs.length ≤ 1000 ∧ n < lv ∧ n ≤ 1000 ∧ bs.length * (2 * n + 1) ≤ 90000 ∧ ∀ L : List Int, L.Nodup → (∀ t ∈ L, ∃ b ∈ bs, smS b = t) → L.length < 64
theorem PreL.small {lv n : Nat} {bs : List Sn} (h0 : NonN bs) (hl : bs.length < 64) (hn : n < lv) (h : n ≤ 500) : PreL lv n bs := by
  refine ⟨h0, by omega, hn, by omega, ?_, fun L nd hL => ?_⟩
  · exact Nat.le_trans (Nat.mul_le_mul (show bs.length ≤ 64 by omega) (show 2 * n + 1 ≤ 1001 by omega)) (by decide)
  · refine Nat.lt_of_le_of_lt (nodup_len (S := bs.map smS) nd fun t ht => ?_) (by rw [List.length_map]; exact hl)
    obtain ⟨b, hb, e⟩ := hL t ht
    exact List.mem_map.mpr ⟨b, hb, e⟩
abbrev s_some_least_ones : Stmt := topS 7
theorem sc_some_least_ones : FnScope ["situations", "most", "by_threads", "situation", "least", "floor", "threads", "fresh", "one"] ["situations", "most"] (defScope s_some_least_ones) := ⟨rfl, rfl, rfl, by decide +kernel, rfl, by decide +kernel, by decide +kernel⟩
-- some_least_ones slots: situations=0 most=1 by_threads=2 situation=3 least=4 floor=5 threads=6 fresh=7 one=8 globals: sum Floor sorted packed list len
def spSomeL (K : PySem.W.Frag) (lv : Nat) : Sp := fun vs H Q _ => ∃ (a : Addr) (mo : V) (n : Nat) (xs : List V) (bs : List Sn), vs = [.ref a, mo] ∧ SqL K H a xs ∧ DpAll K H xs (bs.map sD) ∧ Lens n bs ∧ PreL lv n bs ∧ (mo = .non ∨ ∃ m : Int, mo = .int m ∧ (bs.length : Int) ≤ m) ∧
  ∀ H' p ys L, Same H H' → H p = none → H' p = some (.lst ys) → FreshL (Gn p p H H') ys L → Mini bs L → L.Nodup → L.length ≤ bs.length → Q (.ref p) H'
theorem cell_none {n : Nat} : CellF (oneM fun _ => none) [] n [] := .of List.nodup_nil (Nat.zero_le _) (fun _ h => nomatch h) fun _ => rfl
theorem fd_some_least_ones {f C : Addr} {fd : FuncData} {lv : Nat} (F : Fun K "some_least_ones" "some_least_ones" s_some_least_ones f fd) (mm : mg "some_least_ones" = some (.ref f)) (B : Bt mg) (T : TxtF K mg C) (hlv : 1 ≤ lv) (D_packed : Fd P w K mg base "packed" ["situation"] 1 (spPacked K))
    (I_Floor : Mkr P w K mg base C ["self", "situations"] 2 (spFInit K C)) (M_keep : Md P w K mg base C "keep" ["self", "situation"] 1 (spKeep K C)) (M_is_under : Md P w K mg base C "is_under" ["self", "situation"] (lv + 2) (spUnder K C lv)) : Fd P w K mg base "some_least_ones" ["situations", "most"] (lv + 3) (spSomeL K lv) := by
  refine ⟨f, fd, F.ok sc_some_least_ones (fun vs H Q E h => ?_) (fun cdv A outer s H vs Q E hr h => ?_), mm, F.kp, F.binds (ps := ["situations", "most"]) fun _ _ _ _ _ _ us hl => match us, hl with | [_, _], _ => rfl⟩
  · obtain ⟨a, mo, n, xs, bs, rfl, _⟩ := h
    rfl
  obtain ⟨a, mo, n, xs, bs, rfl, ha, hd, hn, ⟨hp0, hz, hnl, hn1, hsz, h64⟩, hmo, q⟩ := h
  have xl := dpa_len hd
  rw [List.length_map] at xl
  have zl : (xs.zip bs).length = bs.length := by rw [List.length_zip]; omega
  have eb : (xs.zip bs).map (·.2) = bs := List.map_snd_zip (by omega)
  refine ⟨_, (pss_cons (ps_set (i := 2) sc_some_least_ones.nd rfl (Or.inl rfl) pe_dnewK)
 (pss_cons (ps_for PassesOwn.never rfl (piL K (pv 0)) (pg_name (i := 3) sc_some_least_ones.nd rfl (Or.inl rfl))
 (pss_one (ps_expr (peBm K PySem.F.plainAttrs_list PySem.F.slot_list_append PySem.F.type_list_append mt_append (peBm K PySem.F.plainAttrs_dict PySem.F.slot_dict_setdefault PySem.F.type_dict_setdefault mt_setdef (pv 2) (pa_cons (pe_callB (cSum K rfl) (by rfl) B.sum (by decide +kernel) (pa_cons (pe_ix (ixT K) (pv 3) pe_int (fun _ _ => rfl)) pa_nil)) (pa_cons (pe_lst pa_nil) pa_nil))) (pa_cons (pv 3) pa_nil)))))
 (pss_cons (ps_set (i := 4) sc_some_least_ones.nd rfl (Or.inl rfl) (pe_lst pa_nil))
 (pss_cons (ps_set (i := 5) sc_some_least_ones.nd rfl (Or.inl rfl) (pe_mkr I_Floor fun _ _ G mk b => pe_make mk G (hr.mono (by omega)) (by rfl) T.mgC b .nil pass0 (pa_cons (pe_lst pa_nil) pa_nil)))
 (pss_cons (ps_for PassesOwn.never rfl (piL K ((pe_callB (call_sortedDI rfl) (by rfl) B.sorted (by decide +kernel) (pa_cons (pv 2) pa_nil)))) (pg_name (i := 6) sc_some_least_ones.nd rfl (Or.inl rfl))
 (pss_cons (ps_set (i := 7) sc_some_least_ones.nd rfl (Or.inl rfl) pe_dnewN)
 (pss_cons (ps_for PassesOwn.never rfl (piL K (pe_dget (hu_of hr) (pv 2) (pv 6) (fun _ _ => rfl))) (pg_name (i := 3) sc_some_least_ones.nd rfl (Or.inl rfl))
 (pss_cons (ps_set (i := 8) sc_some_least_ones.nd rfl (Or.inl rfl) (pe_fn D_packed (hr.mono (by omega)) rfl (pa_cons (pv 3) pa_nil)))
 (pss_one (ps_if (PW.pt (pw_and (pt_cmpR (op_notInN K hr.units) (pv 8) (pv 7) (by rfl)) (pw_and1 (pt_not (pt_val (pe_md M_is_under fun _ _ G hm b => pe_meth (pv 5) T.cl hm G hr b .nil pass0 (pa_cons (pv 8) pa_nil)))))))
 (pss_cons (ps_asg pe_bl (pg_sub (pv 7) (pv 8) (set_nd K hr.units)))
 (pss_cons (ps_expr (peBm K PySem.F.plainAttrs_list PySem.F.slot_list_append PySem.F.type_list_append mt_append (pv 4) (pa_cons (pe_tup (pa_cons (pe_ix (ixT K) (pv 3) pe_int (fun _ _ => rfl)) (pa_cons (pe_callTy (cList K) (by rfl) B.list (by decide +kernel) (pa_cons (pe_ix (ixT K) (pv 3) pe_int (fun _ _ => rfl)) pa_nil)) pa_nil))) pa_nil)))
 (pss_one (ps_if (PW.pt (pw_and (pt_cmpR op_notN (pv 1) pe_non (nomark _)) (pw_and1 (pt_cmpR op_gt (pe_callB (cLen K) (by rfl) B.len PySem.boot_len (pa_cons (pv 4) pa_nil)) (pv 1) (nomark _)))))
 (pss_one (ps_ret (pv 4)))
 pss_nil))))
 pss_nil))))
 (pss_one (ps_lock (ps_for PassesOwn.never rfl (pi_keysN (pv 7)) (pg_name (i := 8) sc_some_least_ones.nd rfl (Or.inl rfl))
 (pss_one (ps_expr (pe_md M_keep fun _ _ G hm b => pe_meth (pv 5) T.cl hm G (hr.mono (by omega)) b .nil pass0 (pa_cons (pv 8) pa_nil))))))))))
 (pss_one (ps_ret (pv 4)))))))), ?_⟩
  refine fun D nD => ?_
  dsimp only [gName]
  refine ⟨_, rfl, a, rfl, ⟨_, (same_new nD).seq ha⟩, for_list (xs := xs) (fun i σ' H1 => ∃ (M : Int → Option Addr) (y3 : Option V), σ' = [some (.ref a), some mo, some (.ref D), y3, none, none, none, none, none] ∧ Same H H1 ∧ GrpAt H H1 D M ((xs.zip bs).take i)) ?_ ?_ ?_ ?_⟩
  · exact ⟨fun _ => none, none, rfl, same_new nD, ⟨[], upd_same, cell_none⟩, (fun _ _ h => nomatch h), (fun _ _ _ h => nomatch h), (fun _ _ h => nomatch h), nD, (fun _ h => nomatch h), (fun _ h => absurd rfl h)⟩
  · rintro i σ' H1 _ ⟨M, y3, rfl, s1, _⟩
    exact s1.seq ha
  · rintro i u σ' H1 hu ⟨M, y3, rfl, s1, g⟩
    have lt : i < bs.length := by rw [← xl]; exact (List.getElem?_eq_some_iff.mp hu).1
    have hb : bs[i]? = some bs[i] := List.getElem?_eq_getElem lt
    generalize bs[i] = b at hb
    have hzz : (xs.zip bs)[i]? = some (u, b) := List.getElem?_zip_eq_some.mpr ⟨hu, hb⟩
    obtain ⟨u', hu', du⟩ := dpa_at' hd (show (bs.map sD)[i]? = some (sD b) by rw [List.getElem?_map, hb]; rfl)
    obtain rfl : u = u' := Option.some.inj (hu.symm.trans hu')
    obtain ⟨ta, ca, rfl, h1, h2⟩ := dp_sit (dp_mono s1 du)
    dsimp only [gName]
    obtain ⟨kvs, hD, _⟩ := g.dict
    refine ⟨_, rfl, .inr (.inr (.inl ⟨rfl, .inl ⟨_, hD⟩⟩)), _, rfl, _, _, _, _, rfl, rfl, h1, atI_nat (j := 1) rfl, ca, b.2, rfl, h2, szc 0, fun nl nn => ?_⟩
    dsimp only [tNil]
    change rSetDef (V.ref D) [V.int b.2.sum, V.ref nl] (upd H1 nl (.lst [])) (fun x H1 => _)
    refine sdef_mono (g.step (K := K) (x := .ref ta) (b := b) (Q := fun v H2 => v = .non ∧ ∃ M', Same H H2 ∧ GrpAt H H2 D M' ((xs.zip bs).take (i + 1))) s1 nn (by rw [List.length_take]; omega) fun H2 M' s2 g2 => ⟨rfl, M', s2, by rw [take_snoc hzz]; exact g2⟩) fun v H3 h => ⟨h.1, _, rfl, ?_⟩
    obtain ⟨_, l, ys, y, rfl, e1, e2, e3, _, M', s2, g2⟩ := h
    cases e1
    exact ⟨l, ys, _, rfl, rfl, e2, e3, M', _, rfl, s2, g2⟩
  · rintro σ' H1 ⟨M, y3, rfl, s1, g⟩
    rw [List.take_of_length_le (by omega)] at g
    refine ⟨sz (by decide), fun lo nlo => ?_⟩
    dsimp only [gName]
    refine ⟨sz (by decide), fun e0 ne0 => fun fo fdx nfo nfdx hne => ?_⟩
    have sA : Same H1 (upd (upd (upd (upd H1 lo (.lst [])) e0 (.lst [])) fdx (.own fo)) fo (.ins C fdx [])) := fun c o h => by
      have c1 : (upd H1 lo (.lst [])) c = some o := (same_new nlo) _ _ h
      have c2 : (upd (upd H1 lo (.lst [])) e0 (.lst [])) c = some o := (same_new ne0) _ _ c1
      exact (upd_ne (ne_of_none c2 nfo)).trans ((upd_ne (ne_of_none c2 nfdx)).trans c2)
    have e0A : (upd (upd (upd (upd H1 lo (.lst [])) e0 (.lst [])) fdx (.own fo)) fo (.ins C fdx [])) e0 = some (.lst []) := (upd_ne fun z => by rw [← z, upd_same] at nfo; cases nfo).trans ((upd_ne fun z => by rw [← z, upd_same] at nfdx; cases nfdx).trans upd_same)
    have loA : (upd (upd (upd (upd H1 lo (.lst [])) e0 (.lst [])) fdx (.own fo)) fo (.ins C fdx [])) lo = some (.lst []) := by
      have l1 : (upd H1 lo (.lst [])) lo = some (.lst []) := upd_same
      have l2 : (upd (upd H1 lo (.lst [])) e0 (.lst [])) lo = some (.lst []) := (same_new ne0) _ _ l1
      exact (upd_ne (ne_of_none l2 nfo)).trans ((upd_ne (ne_of_none l2 nfdx)).trans l2)
    have foA : (upd (upd (upd (upd H1 lo (.lst [])) e0 (.lst [])) fdx (.own fo)) fo (.ins C fdx [])) fo = some (.ins C fdx []) := upd_same
    have fo1 : H1 fo = none := (same_new nlo).free ((same_new ne0).free nfo)
    generalize upd (upd (upd (upd H1 lo (.lst [])) e0 (.lst [])) fdx (.own fo)) fo (.ins C fdx []) = HA at sA e0A loA foA ⊢
    refine ⟨fo, e0, fdx, [], [], rfl, foA, sq e0A, .nil, Nat.zero_le _, fun i x h => (by simp at h), fun H2 FF fl fr nf un => ⟨rfl, ?_⟩⟩
    dsimp only [gName]
    have s12 : Same H1 H2 := fun c o h => fr c o (ne_of_none h fo1) (sA c o h)
    have lo2 : H2 lo = some (.lst []) := fr lo _ (fun z => by rw [z, foA] at loA; cases loA) loA
    have nfH : ∀ q b, FF q = some b → H b = none ∧ b ≠ D := fun q b h => by
      have := nf q b h
      refine ⟨s1.free (sA.free this), fun z => ?_⟩
      obtain ⟨kvs, e1, _⟩ := g.dict
      rw [z, sA _ _ e1] at this; cases this
    have loM : ∀ t, M t ≠ some lo := fun t z => by
      have := g.lists t lo z
      rw [nlo] at this; cases this
    have gA := g.mono s12
    obtain ⟨kvs, hD, cell⟩ := gA.dict
    obtain ⟨ks, hks, ndk, memk⟩ := keys_of cell
    refine ⟨_, rfl, D, kvs, ks, rfl, .inl hD, hks, h64 ks ndk fun t ht => ?_, fun ys kp pm pw nkp => ?_⟩
    · obtain ⟨z, hz1, hz2⟩ := g.only t ((memk t).mp ht)
      exact ⟨z.2, by rw [← eb]; exact List.mem_map.mpr ⟨z, hz1, rfl⟩, hz2⟩
    have s23 : Same H2 (upd H2 kp (.lst (ys.map V.int))) := same_new nkp
    have kpe : (upd H2 kp (.lst (ys.map V.int))) kp = some (.lst (ys.map V.int)) := upd_same
    have lok : lo ≠ kp := fun z => by rw [z, nkp] at lo2; cases lo2
    have lo3 := s23 _ _ lo2
    generalize upd H2 kp (.lst (ys.map V.int)) = H3 at s23 kpe lo3 ⊢
    have ndy : ys.Nodup := pm.nodup_iff.mpr ndk
    have memy : ∀ t, t ∈ ys ↔ M t ≠ none := fun t => pm.mem_iff.trans (memk t)
    have I0 : SomeI C H D kp fo lo M (xs.zip bs) ys H3 FF 0 := ⟨(s1.trans s12).trans s23, gA.mono s23, kpe, fl.mono s23, nfH, s1.free nlo, loM, lok⟩
    refine ⟨kp, rfl, ⟨_, sq kpe⟩, for_list (xs := ys.map V.int) (fun j σ' H' => ∃ (FF : Tri) (N : Nat) (ls : List V) (L P' : List Sn) (y3 y6 y7 y8 : Option V), σ' = [some (.ref a), some mo, some (.ref D), y3, some (.ref lo), some (.ref fo), y6, y7, y8] ∧ SomeI C H D kp fo lo M (xs.zip bs) ys H' FF N ∧
      H' lo = some (.lst ls) ∧ FreshL (Gn lo lo H H') ls L ∧ Fnd n bs P' L ∧ (∀ x ∈ bs, smS x ∈ ys.take j → x ∈ P') ∧ (∀ x ∈ P', smS x ∈ ys.take j) ∧ (∀ y, Und FF y ↔ Ab (L.map pk) y) ∧ N ≤ L.length * (2 * n + 1)) ?_ ?_ ?_ ?_⟩
    · exact ⟨FF, 0, [], [], [], y3, none, none, none, rfl, I0, lo3, .nil, ⟨Mini.nil, List.nodup_nil, fun _ h => nomatch h⟩, (fun x _ h => by simp at h), (fun _ h => nomatch h), un, Nat.zero_le _⟩
    · rintro j σ' H' _ ⟨FF, N, ls, L, P', y3, y6, y7, y8, rfl, I, _⟩
      exact sq I.keys
    · rintro j u σ' H' hu ⟨FF, N, ls, L, P', y3, y6, y7, y8, rfl, I, elo, fL, fnd, allP, inP, un, hN⟩
      obtain ⟨t, ht, rfl⟩ := get_map_inv hu
      have lowt := strict_at pw ndy ht
      have tM := (memy t).mp (List.mem_of_getElem? ht)
      obtain ⟨ga, hga⟩ : ∃ ga, M t = some ga := by
        cases e : M t with
        | none => exact absurd e tM
        | some ga => exact ⟨ga, rfl⟩
      dsimp only [gName]
      refine fun fd nfd => ?_
      dsimp only [gName]
      have sF : Same H' (upd H' fd (NDo P w fd [])) := same_new nfd
      have fdH : H fd = none := I.same.free nfd
      have I1 := I.mono sF
      have efd : (upd H' fd (NDo P w fd [])) fd = some (NDo P w fd []) := upd_same
      have elo1 := sF _ _ elo
      have fL1 := fL.mono (gn_same (o1 := lo) (r := lo) (Hb := H) sF)
      change tSeq _ _ _ _ (upd H' fd (NDo P w fd []))
      generalize upd H' fd (NDo P w fd []) = H4 at I1 efd elo1 fL1 ⊢
      obtain ⟨kvs4, hD4, cell4⟩ := I1.grp.dict
      have hget : DGet H4 D (.int t) (some (V.ref ga)) := by
        have := DGet.k (k := Sum.inl t) hD4
        rw [show valV kvs4 (Sum.inl t) = (M t).map V.ref from cell4.val t, hga] at this
        exact this
      refine ⟨_, rfl, _, rfl, D, V.ref ga, rfl, hget, ga, rfl, ⟨_, sq (I1.grp.lists t ga hga)⟩, for_list (xs := (grpZ (xs.zip bs) t).map (·.1)) (fun i σ2 H5 => ∃ (ls : List V) (Lg : List Sn) (ks : List (NestedKey × Addr)) (y3 y8 : Option V), σ2 = [some (.ref a), some mo, some (.ref D), y3, some (.ref lo), some (.ref fo), some (.int t), some (.ref fd), y8] ∧
        SomeI C H D kp fo lo M (xs.zip bs) ys H5 FF N ∧ H5 lo = some (.lst ls) ∧ FreshL (Gn lo lo H H5) ls (L ++ Lg) ∧ H5 fd = some (NDo P w fd ks) ∧ NKs K H5 ks ∧ ks.map (·.1) = Lg.map (fun x => nkP (pk x)) ∧ Fnd n bs (P' ++ ((grpZ (xs.zip bs) t).take i).map (·.2)) (L ++ Lg) ∧ (∀ x ∈ Lg, smS x = t)) ?_ ?_ ?_ ?_⟩
      · refine ⟨ls, [], [], y3, y8, rfl, I1, elo1, by rw [List.append_nil]; exact fL1, efd, (fun _ h => nomatch h), rfl, by rw [List.append_nil, List.take_zero, List.map_nil, List.append_nil]; exact fnd, fun _ h => nomatch h⟩
      · rintro i σ2 H5 _ ⟨ls, Lg, ks, y3, y8, rfl, I5, _⟩
        exact sq (I5.grp.lists t ga hga)
      · rintro i v σ2 H5 hv ⟨ls, Lg, ks, y3, y8, rfl, I5, elo5, fL5, efd5, nk5, ksL, fnd5, smg⟩
        obtain ⟨⟨v', b⟩, hz, rfl⟩ := get_map_inv hv
        have hzm := List.mem_of_getElem? hz
        obtain ⟨hz1, hz2⟩ := List.mem_filter.mp hzm
        have hsm : smS b = t := of_decide_eq_true hz2
        obtain ⟨i0, hi0⟩ := List.getElem?_of_mem hz1
        obtain ⟨hi1, hi2⟩ := List.getElem?_zip_eq_some.mp hi0
        have hbm : b ∈ bs := List.mem_of_getElem? hi2
        have lenb := hn b hbm
        have nnb := hp0 b hbm
        obtain ⟨v2, hv2, du⟩ := dpa_at' hd (show (bs.map sD)[i0]? = some (sD b) by rw [List.getElem?_map, hi2]; rfl)
        have ev : v2 = v := Option.some.inj (hv2.symm.trans hi1)
        rw [ev] at du
        have sit := dp_sit (dp_mono I5.same du)
        dsimp only [gName]
        refine ⟨_, rfl, v, b.1, b.2, rfl, sit, by omega, fun H6 p s6 dp6 => ?_⟩
        dsimp only [gName]
        have I6 := I5.mono s6
        have elo6 := s6 _ _ elo5
        have efd6 := s6 _ _ efd5
        have nk6 := nk5.mono s6
        have fL6 := fL5.mono (gn_same (o1 := lo) (r := lo) (Hb := H) s6)
        have dpk : Dp K H6 (.ref p) (nkP (pk b)).data := by rw [nk_data]; exact dp6
        have pkl : (pk b).2.length ≤ n := by have := pkL_len 0 b.2; rw [lenb] at this; exact this
        have tk : P' ++ ((grpZ (xs.zip bs) t).take (i + 1)).map (·.2) = (P' ++ ((grpZ (xs.zip bs) t).take i).map (·.2)) ++ [b] := by
          rw [take_snoc hz, List.map_append, List.append_assoc]
          rfl
        have lenL : Lens n (L ++ Lg) := fun y hy => hn y (fnd5.inS y (fnd5.sub y hy))
        have nnL : NonN (L ++ Lg) := fun y hy => hp0 y (fnd5.inS y (fnd5.sub y hy))
        refine ⟨_, rfl, _, rfl, p, fd, nkP (pk b), ks, rfl, rfl, efd6, nk6, dpk, nk_depth _, _, rfl, ?_⟩
        cases hin : (ks.map (·.1)).any (fun x => decide (x = nkP (pk b))) with
        | true =>
          refine iteFx rfl (iteFx rfl ?_)
          refine ⟨ls, Lg, ks, _, _, rfl, I6, elo6, fL6, efd6, nk6, ksL, ?_, smg⟩
          rw [tk]
          refine fnd5.yes hbm ⟨b, ?_, covS_refl b⟩
          obtain ⟨k, hk1, hk2⟩ := List.any_eq_true.mp hin
          rw [ksL] at hk1
          obtain ⟨y, hy1, hy2⟩ := List.mem_map.mp hk1
          have hy3 : y ∈ L ++ Lg := List.mem_append_right _ hy1
          have := pk_inj (lenL y hy3) lenb (nnL y hy3) nnb (nk_inj (hy2.trans (of_decide_eq_true hk2)))
          rw [← this]
          exact hy3
        | false =>
          have notin : nkP (pk b) ∉ ks.map (·.1) := fun hm => by
            have := (List.any_eq_true (p := fun x => decide (x = nkP (pk b)))).mpr ⟨_, hm, decide_eq_true rfl⟩
            rw [hin] at this
            cases this
          refine iteTx rfl ?_
          obtain ⟨dxf, df, hfo, _⟩ := I6.fl.ob
          refine ⟨_, rfl, fo, dxf, _, rfl, hfo, fT_no _ (by decide +kernel), _, rfl, fo, .ref p, FF, N, pk b, rfl, I6.fl, dp6, by omega, by omega, fun H7 b' s7 hb' => ?_⟩
          have I7 := I6.mono s7
          have elo7 := s7 _ _ elo6
          have efd7 := s7 _ _ efd6
          have nk7 := nk6.mono s7
          have fL7 := fL6.mono (gn_same (o1 := lo) (r := lo) (Hb := H) s7)
          have lenL0 : Lens n L := fun y hy => lenL y (List.mem_append_left _ hy)
          have nnL0 : NonN L := fun y hy => nnL y (List.mem_append_left _ hy)
          have hund : b' = true ↔ ∃ y ∈ L, covS b y = true := hb'.trans ((un _).trans (ab_cov lenL0 lenb nnL0 nnb))
          refine ⟨b', rfl, ?_⟩
          cases b' with
          | true =>
            refine iteFx rfl ?_
            refine ⟨ls, Lg, ks, _, _, rfl, I7, elo7, fL7, efd7, nk7, ksL, ?_, smg⟩
            rw [tk]
            obtain ⟨y, hy, c⟩ := hund.mp rfl
            exact fnd5.yes hbm ⟨y, List.mem_append_left _ hy, c⟩
          | false =>
            refine iteTx rfl ?_
            have lpos : ks.length ≤ 90000 := by
              have h1 : ks.length = Lg.length := by have := congrArg List.length ksL; rw [List.length_map, List.length_map] at this; exact this
              have h2 := nodup_len fnd5.nd fun x hx => fnd5.inS x (fnd5.sub x hx)
              rw [List.length_append] at h2
              omega
            refine ⟨_, rfl, _, rfl, p, fd, nkP (pk b), ks, rfl, rfl, rfl, efd7, nk7, dp_mono s7 dpk, nk_depth _, notin, szn lpos (by omega), ?_⟩
            have I8 := I7.putX (o := NDo P w fd (ks ++ [(nkP (pk b), p)])) fdH efd7 trivial
            have q8 : SameQ H7 (upd H7 fd (NDo P w fd (ks ++ [(nkP (pk b), p)]))) := put_quiet efd7 trivial
            have efd8 : (upd H7 fd (NDo P w fd (ks ++ [(nkP (pk b), p)]))) fd = some (NDo P w fd (ks ++ [(nkP (pk b), p)])) := upd_same
            have elo8 := q8 _ _ elo7 (fun z => z)
            have fL8 := fL7.quiet q8
            have nk8 := nk7.monoQ q8
            have dp8 := dp_monoQ q8 (dp_mono s7 dpk)
            have lofd : lo ≠ fd := fun z => by rw [← z, elo7] at efd7; cases efd7
            have du8 := dp_mono I8.same du
            change tSeq _ _ _ _ (upd H7 fd (NDo P w fd (ks ++ [(nkP (pk b), p)])))
            generalize upd H7 fd (NDo P w fd (ks ++ [(nkP (pk b), p)])) = H8 at I8 efd8 elo8 fL8 nk8 dp8 du8 ⊢
            clear q8
            obtain ⟨ta, ca, rfl, h1, h2⟩ := dp_sit du8
            refine ⟨_, rfl, .inl ⟨rfl, _, sq elo8⟩, _, rfl, _, _, _, _, rfl, rfl, h1, atI_nat (j := 0) rfl, _, rfl, _, _, _, _, rfl, rfl, h1, atI_nat (j := 1) rfl, ca, _, rfl, .inl h2, fun l nl => ⟨szc 2, fun t2 nt => ?_⟩⟩
            have tl' : t2 ≠ l := fun e => by rw [e, upd_same] at nt; cases nt
            have nt8 : H8 t2 = none := (same_new nl).free nt
            have s9 := (same_new (o := HO.lst (b.2.map V.int)) nl).trans (same_new (o := HO.tup [V.int b.1, V.ref l]) nt)
            have ht9 : (upd (upd H8 l (.lst (b.2.map V.int))) t2 (.tup [.int b.1, .ref l])) t2 = some (.tup [.int b.1, .ref l]) := upd_same
            have hl9 : (upd (upd H8 l (.lst (b.2.map V.int))) t2 (.tup [.int b.1, .ref l])) l = some (.lst (b.2.map V.int)) := by rw [upd_ne (Ne.symm tl')]; exact upd_same
            generalize upd (upd H8 l (.lst (b.2.map V.int))) t2 (.tup [.int b.1, .ref l]) = H9 at s9 ht9 hl9 ⊢
            have I9 := I8.mono s9
            have elo9 := s9 _ _ elo8
            have efd9 := s9 _ _ efd8
            have nk9 := nk8.mono s9
            have dp9 := dp_mono s9 dp8
            have fL9 := fL8.mono (gn_same (o1 := lo) (r := lo) (Hb := H) s9)
            have t2lo : t2 ≠ lo := fun e => by rw [e, elo8] at nt8; cases nt8
            have llo : l ≠ lo := fun e => by rw [e, elo8] at nl; cases nl
            have fr9 : FreshS (Gn lo lo H H9) (.ref t2) b := ⟨t2, l, rfl, gn_iff.mpr ⟨t2lo, t2lo, I8.same.free nt8, ht9⟩, gn_iff.mpr ⟨llo, llo, I8.same.free nl, hl9⟩⟩
            have lsl : ls.length = (L ++ Lg).length := fL9.len
            have lbs := nodup_len fnd5.nd fun x hx => fnd5.inS x (fnd5.sub x hx)
            have fnd6 := fnd5.no hn hbm (fun y hy => ?_) (fun y hy => ?_)
            · have lbs6 := nodup_len fnd6.nd fun x hx => fnd6.inS x (fnd6.sub x hx)
              rw [List.length_append, List.length_singleton] at lbs6
              refine ⟨lo, ls, .ref t2, rfl, rfl, elo9, szn (m := 1000) (by omega) (by omega), ?_⟩
              have I10 := I9.putLo (ls' := ls ++ [.ref t2]) elo9
              have elo10 : (upd H9 lo (.lst (ls ++ [.ref t2]))) lo = some (.lst (ls ++ [.ref t2])) := upd_same
              have efd10 : (upd H9 lo (.lst (ls ++ [.ref t2]))) fd = some (NDo P w fd (ks ++ [(nkP (pk b), p)])) := by rw [upd_ne lofd.symm]; exact efd9
              have gm : Same (Gn lo lo H H9) (Gn lo lo H (upd H9 lo (.lst (ls ++ [.ref t2])))) := gn_mut (.inl rfl)
              have fL10 : FreshL (Gn lo lo H (upd H9 lo (.lst (ls ++ [.ref t2])))) (ls ++ [.ref t2]) ((L ++ Lg) ++ [b]) := FreshL.snoc (let ⟨a1, a2, a3, a4, a5⟩ := fr9; ⟨a1, a2, a3, gm _ _ a4, gm _ _ a5⟩) (fL9.mono gm)
              have nk10 : NKs K (upd H9 lo (.lst (ls ++ [.ref t2]))) (ks ++ [(nkP (pk b), p)]) := by
                refine NKs.putL (fun x hx => ?_) elo9
                rcases List.mem_append.mp hx with h | h
                · exact nk9 x h
                · rw [List.mem_singleton.mp h]
                  exact ⟨dp9, nk_depth _⟩
              generalize upd H9 lo (.lst (ls ++ [.ref t2])) = H10 at I10 elo10 efd10 fL10 nk10 ⊢
              have fin : ∃ (ls : List V) (Lg : List Sn) (ks : List (NestedKey × Addr)) (y3 y8 : Option V), [some (.ref a), some mo, some (.ref D), some (.ref ta), some (.ref lo), some (.ref fo), some (.int t), some (.ref fd), some (.ref p)] = [some (.ref a), some mo, some (.ref D), y3, some (.ref lo), some (.ref fo), some (.int t), some (.ref fd), y8] ∧
                SomeI C H D kp fo lo M (xs.zip bs) ys H10 FF N ∧ H10 lo = some (.lst ls) ∧ FreshL (Gn lo lo H H10) ls (L ++ Lg) ∧ H10 fd = some (NDo P w fd ks) ∧ NKs K H10 ks ∧ ks.map (·.1) = Lg.map (fun x => nkP (pk x)) ∧ Fnd n bs (P' ++ ((grpZ (xs.zip bs) t).take (i + 1)).map (·.2)) (L ++ Lg) ∧ (∀ x ∈ Lg, smS x = t) := by
                refine ⟨ls ++ [.ref t2], Lg ++ [b], ks ++ [(nkP (pk b), p)], _, _, rfl, I10, elo10, by rw [← List.append_assoc]; exact fL10, efd10, nk10, ?_, ?_, fun x hx => ?_⟩
                · rw [List.map_append, List.map_append, ksL]
                  rfl
                · rw [tk, ← List.append_assoc]
                  exact fnd6
                · rcases List.mem_append.mp hx with h | h
                  · exact smg x h
                  · rw [List.mem_singleton.mp h]; exact hsm
              refine ⟨_, rfl, rfl, _, rfl, ?_⟩
              rcases hmo with rfl | ⟨m, rfl, hm⟩
              · exact iteFx rfl (iteFx rfl fin)
              · refine iteTx rfl ⟨_, rfl, lo, _, rfl, .inl (sq elo10), _, rfl, _, _, rfl, rfl, _, rfl, ?_⟩
                refine iteFx (decide_eq_false ?_) fin
                have lsn : (ls ++ [V.ref t2]).length = ls.length + 1 := by rw [List.length_append]; rfl
                rw [lsn]
                omega
            · cases c : covS b y with
              | false => rfl
              | true =>
                exfalso
                rcases List.mem_append.mp hy with h | h
                · have := hund.mpr ⟨y, h, c⟩
                  cases this
                · have ly : y.2.length = n := lenL y hy
                  have := (cov_sum (lenb.trans ly.symm) c).2 (by rw [hsm, smg y h]; exact Int.le_refl _)
                  refine notin ?_
                  rw [ksL, this]
                  exact List.mem_map.mpr ⟨y, h, rfl⟩
            · rcases List.mem_append.mp hy with h | h
              · have := lowt _ (inP y (fnd.sub y h))
                omega
              · rw [hsm, smg y h]
                exact Int.le_refl _
      · rintro σ2 H5 ⟨ls, Lg, ks, y3, y8, rfl, I5, elo5, fL5, efd5, nk5, ksL, fnd5, smg⟩
        rw [List.length_map, List.take_length] at fnd5
        have lofd : lo ≠ fd := fun z => by rw [← z, elo5] at efd5; cases efd5
        have lbs := nodup_len fnd5.nd fun x hx => fnd5.inS x (fnd5.sub x hx)
        rw [List.length_append] at lbs
        have ksl : ks.length = Lg.length := by have := congrArg List.length ksL; rw [List.length_map, List.length_map] at this; exact this
        have lenL : Lens n (L ++ Lg) := fun y hy => hn y (fnd5.inS y (fnd5.sub y hy))
        have nnL : NonN (L ++ Lg) := fun y hy => hp0 y (fnd5.inS y (fnd5.sub y hy))
        refine ⟨fd, NDo P w fd ks, efd5, True.intro, fun od => ?_⟩
        have q6 : SameQ H5 (upd H5 fd (.frz od (NDo P w fd ks))) := put_quiet efd5 trivial
        refine ⟨_, rfl, fd, od, ks, rfl, upd_same, for_keysN (fun i σ3 H6 => i ≤ Lg.length ∧ ∃ (F6 : Tri) (N6 : Nat) (y8 : Option V), σ3 = [some (.ref a), some mo, some (.ref D), y3, some (.ref lo), some (.ref fo), some (.int t), some (.ref fd), y8] ∧ SomeI C H D kp fo lo M (xs.zip bs) ys H6 F6 N6 ∧ H6 lo = some (.lst ls) ∧
          FreshL (Gn lo lo H H6) ls (L ++ Lg) ∧ H6 fd = some (.frz od (NDo P w fd ks)) ∧ NKs K H6 ks ∧ (∀ y, Und F6 y ↔ Ab (L.map pk) y ∨ Ab ((Lg.take i).map pk) y) ∧ N6 ≤ (L.length + i) * (2 * n + 1)) ?_ ?_ ?_ ?_⟩
        · refine ⟨Nat.zero_le _, FF, N, y8, rfl, I5.putX fdH efd5 trivial, by rw [upd_ne lofd]; exact elo5, fL5.quiet q6, upd_same, nk5.monoQ q6, fun y => (un y).trans ⟨.inl, fun z => ?_⟩, hN⟩
          rcases z with z | ⟨_, z, _⟩
          · exact z
          · cases z
        · rintro i σ3 H6 _ ⟨_, F6, N6, y8, rfl, I6, elo6, fL6, efd6, _⟩
          exact efd6
        · rintro i k p σ3 H6 hk ⟨_, F6, N6, y8, rfl, I6, elo6, fL6, efd6, nk6, un6, hN6⟩
          have ilt : i < Lg.length := by rw [← ksl]; exact (List.getElem?_eq_some_iff.mp hk).1
          have hx : Lg[i]? = some Lg[i] := List.getElem?_eq_getElem ilt
          generalize Lg[i] = x at hx
          have hkx : k = nkP (pk x) := by
            have e1 : (ks.map (·.1))[i]? = some k := by rw [List.getElem?_map, hk]; rfl
            rw [ksL, List.getElem?_map, hx] at e1
            exact (Option.some.inj e1).symm
          have hxm : x ∈ L ++ Lg := List.mem_append_right _ (List.mem_of_getElem? hx)
          have lx := lenL x hxm
          have dpx : Dp K H6 (.ref p) (pkx (pk x)) := by rw [← nk_data, ← hkx]; exact (nk6 _ (List.mem_of_getElem? hk)).1
          have pkl : (pk x).2.length ≤ n := by have := pkL_len 0 x.2; rw [lx] at this; exact this
          have spl : Lg = Lg.take i ++ x :: Lg.drop (i + 1) := by rw [← drop_hd hx, List.take_append_drop]
          have ap : ∀ y, y ∈ L ∨ y ∈ Lg.take i → covS x y = false := by
            have f := fnd5
            rw [spl] at f
            exact f.apart
          have nund : ¬ Und F6 (pk x) := fun z => by
            rcases (un6 _).mp z with z | z
            · obtain ⟨y, hy, c⟩ := (ab_cov (fun y hy => lenL y (List.mem_append_left _ hy)) lx (fun y hy => nnL y (List.mem_append_left _ hy)) (nnL x hxm)).mp z
              rw [ap y (.inl hy)] at c
              cases c
            · obtain ⟨y, hy, c⟩ := (ab_cov (fun y hy => lenL y (List.mem_append_right _ (List.mem_of_mem_take hy))) lx (fun y hy => nnL y (List.mem_append_right _ (List.mem_of_mem_take hy))) (nnL x hxm)).mp z
              rw [ap y (.inr hy)] at c
              cases c
          have bnd : (L.length + i + 1) * (2 * n + 1) ≤ 90000 := Nat.le_trans (Nat.mul_le_mul_right _ (by omega)) hsz
          rw [Nat.succ_mul] at bnd
          obtain ⟨dxf, df, hfo, _⟩ := I6.fl.ob
          dsimp only [gName]
          refine ⟨_, rfl, fo, dxf, _, rfl, hfo, fT_no _ (by decide +kernel), _, rfl, fo, .ref p, F6, N6, pk x, rfl, I6.fl, dpx, nund, by omega, fun H7 F7 fl7 fr7 nw7 un7 => ?_⟩
          have q7 := fr7.quiet I6.fl.tri
          refine ⟨ilt, F7, _, _, rfl, I6.kept fl7 fr7 nw7, q7 _ _ elo6 (fun z => z), fL6.quiet q7, fr7 _ _ efd6 (fun q z => ?_), nk6.monoQ q7, fun y => ?_, ?_⟩
          · obtain ⟨kvs, e1, _⟩ := I6.fl.tri q fd List.nil_prefix z
            rw [efd6] at e1
            cases e1
          · rw [un7, un6, take_snoc hx, List.map_append, ab_app, or_assoc]
            refine or_congr Iff.rfl (or_congr Iff.rfl ?_)
            exact ⟨fun z => ⟨_, List.mem_singleton.mpr rfl, z⟩, fun ⟨_, z1, z2⟩ => by rw [List.mem_singleton.mp z1] at z2; exact z2⟩
          · have e : (L.length + (i + 1)) * (2 * n + 1) = (L.length + i) * (2 * n + 1) + (2 * n + 1) := by rw [← Nat.add_assoc, Nat.succ_mul]
            omega
        · rintro σ3 H6 ⟨_, F6, N6, y8, rfl, I6, elo6, fL6, efd6, nk6, un6, hN6⟩
          rw [ksl, List.take_length] at un6
          rw [ksl] at hN6
          refine ⟨efd6, F6, N6, ls, L ++ Lg, _, y3, _, _, y8, rfl, I6.putX fdH efd6 trivial, by rw [upd_ne lofd]; exact elo6, fL6.putX efd6 trivial, fnd5, fun x hx hm => ?_, fun x hx => ?_, fun y => ?_, by rw [List.length_append]; exact hN6⟩
          · rw [take_snoc ht] at hm
            rcases List.mem_append.mp hm with h | h
            · exact List.mem_append_left _ (allP x hx h)
            · refine List.mem_append_right _ ?_
              rw [← eb] at hx
              obtain ⟨z, hz1, rfl⟩ := List.mem_map.mp hx
              exact List.mem_map.mpr ⟨z, List.mem_filter.mpr ⟨hz1, decide_eq_true (List.mem_singleton.mp h)⟩, rfl⟩
          · rw [take_snoc ht]
            rcases List.mem_append.mp hx with h | h
            · exact List.mem_append_left _ (inP x h)
            · obtain ⟨z, hz1, rfl⟩ := List.mem_map.mp h
              exact List.mem_append_right _ (List.mem_singleton.mpr (of_decide_eq_true (List.mem_filter.mp hz1).2))
          · rw [un6, List.map_append, ab_app]
    · rintro σ' H' ⟨FF, N, ls, L, P', y3, y6, y7, y8, rfl, I, elo, fL, fnd, allP, inP, un, hN⟩
      rw [List.length_map, List.take_length] at allP
      refine ⟨_, rfl, q H' lo ls L I.same I.nlo elo fL (fnd.end' fun x hx => allP x hx ?_) fnd.nd (nodup_len fnd.nd fun x hx => fnd.inS x (fnd.sub x hx))⟩
      rw [← eb] at hx
      obtain ⟨z, hz1, rfl⟩ := List.mem_map.mp hx
      exact (memy _).mpr (g.has z hz1)
end
/-! ### least_ones -/
abbrev Srt (T : List Sn) : Prop := T.Pairwise fun a b => ltS b a = false
theorem sorted_T {n : Nat} {zs : List (V × Sn)} (hn : ∀ p ∈ zs, p.2.2.length = n) : Srt ((zs.mergeSort leS).map (·.2)) := by
  have h := PySem.W.sort_pairwise (PySem.W.sortLe_total (listOrd itemOrd) false fun p : V × Int × List Int => PySem.W.keyToks (encS p)) zs
  rw [Srt, List.pairwise_map]
  refine List.Pairwise.imp_of_mem ?_ h
  intro p q hp hq e
  have p1 := hn p ((List.mergeSort_perm zs leS).mem_iff.mp hp)
  have p2 := hn q ((List.mergeSort_perm zs leS).mem_iff.mp hq)
  exact leS_lt (p1.trans p2.symm) e
theorem Mini.perm {S L M : List Sn} (h : Mini S L) (p : M.Perm L) : Mini S M := ⟨fun x hx => h.sub x (p.mem_iff.mp hx), fun x hx => by
  obtain ⟨y, hy, c⟩ := h.cov x hx
  exact ⟨y, p.mem_iff.mpr hy, c⟩, fun x hx y hy c => h.anti x (p.mem_iff.mp hx) y (p.mem_iff.mp hy) c⟩
theorem asc_of {n : Nat} {L : List Sn} (hn : Lens n L) (s : Srt L) (nd : L.Nodup) : Asc L := by
  have h := List.Pairwise.and s nd
  refine List.Pairwise.imp_of_mem ?_ h
  intro x y hx hy e
  cases c : ltS x y with
  | true => rfl
  | false => exact absurd (ltS_tot ((hn x hx).trans (hn y hy).symm) c e.1) e.2
theorem fresh_zip {G : Hp} : ∀ {vs : List V} {bs : List Sn}, FreshL G vs bs → ∀ p ∈ vs.zip bs, FreshS G p.1 p.2
  | _, _, .nil, p, h => by cases h
  | _, _, .cons h t, p, hp => by
    rcases List.mem_cons.mp hp with rfl | hp
    · exact h
    · exact fresh_zip t p hp
theorem fresh_of {G : Hp} : ∀ {ps : List (V × Sn)}, (∀ p ∈ ps, FreshS G p.1 p.2) → FreshL G (ps.map (·.1)) (ps.map (·.2))
  | [], _ => .nil
  | p :: ps, h => .cons (h p List.mem_cons_self) (fresh_of fun q hq => h q (List.mem_cons_of_mem _ hq))
section
variable {P : Program} {w : World} {K : PySem.W.Frag} {mg : Str → Option Value} {base : Heap}
abbrev s_least_ones : Stmt := topS 6
theorem sc_least_ones : FnScope ["situations"] ["situations"] (defScope s_least_ones) := ⟨rfl, rfl, rfl, by decide +kernel, rfl, by decide +kernel, by decide +kernel⟩
-- least_ones slots: situations=0 globals: sorted some_least_ones
def spLeast (K : PySem.W.Frag) (lv : Nat) : Sp := fun vs H Q _ => ∃ (a : Addr) (n : Nat) (xs : List V) (bs : List Sn), vs = [.ref a] ∧ SqL K H a xs ∧ DpAll K H xs (bs.map sD) ∧ Lens n bs ∧ PreL lv n bs ∧
  ∀ H' p ys L, Same H H' → H p = none → H' p = some (.lst ys) → FreshL (Gn p p H H') ys L → Least bs L → L.length ≤ bs.length → Q (.ref p) H'
theorem fd_least_ones {f : Addr} {fd : FuncData} {lv : Nat} (F : Fun K "least_ones" "least_ones" s_least_ones f fd) (m : mg "least_ones" = some (.ref f)) (B : Bt mg) (D_some_least_ones : Fd P w K mg base "some_least_ones" ["situations", "most"] (lv + 3) (spSomeL K lv)) : Fd P w K mg base "least_ones" ["situations"] (lv + 4) (spLeast K lv) := by
  refine ⟨f, fd, F.ok sc_least_ones (fun vs H Q E h => ?_) (fun cdv A outer s H vs Q E hr h => ?_), m, F.kp, F.binds (ps := ["situations"]) fun _ _ _ _ _ _ us hl => match us, hl with | [_], _ => rfl⟩
  · obtain ⟨a, n, xs, bs, rfl, _⟩ := h
    rfl
  obtain ⟨a, n, xs, bs, rfl, ha, hd, hn, pre, q⟩ := h
  refine ⟨_, (pss_one (ps_ret (pe_callB (cSortS K hr.units) (by rfl) B.sorted (by decide +kernel) (pa_cons (pe_fn D_some_least_ones hr rfl (pa_cons (pv 0) (pa_cons pe_non pa_nil))) pa_nil)))), ?_⟩
  refine ⟨_, rfl, a, .non, n, xs, bs, rfl, ha, hd, hn, pre, .inl rfl, fun H' p ys L s' np ep fL mini nd ll => ?_⟩
  have yl := fL.len
  have ey : (ys.zip L).map (·.1) = ys := List.map_fst_zip (by omega)
  have eL : (ys.zip L).map (·.2) = L := List.map_snd_zip (by omega)
  have fz := fresh_zip fL
  have lenL : Lens n L := fun y hy => hn y (mini.sub y hy)
  have pm := List.mergeSort_perm (ys.zip L) leS
  have pmT : (((ys.zip L).mergeSort leS).map (·.2)).Perm L := by
    have := pm.map (·.2)
    rw [eL] at this
    exact this
  have srt := sorted_T (zs := ys.zip L) (n := n) fun z hz2 => lenL _ (by rw [← eL]; exact List.mem_map.mpr ⟨z, hz2, rfl⟩)
  refine ⟨p, ys.zip L, rfl, by rw [ey]; exact sq ep, fun z hz2 => ?_, fun r nr => ?_⟩
  · obtain ⟨t, c, e, h1, h2⟩ := fz z hz2
    exact ⟨t, c, e, st (gn_out _ _ h1), sq (gn_out _ _ h2)⟩
  refine q _ r _ (((ys.zip L).mergeSort leS).map (·.2)) (s'.trans (same_new nr)) (s'.free nr) upd_same (fresh_of fun z hz2 => ?_) ⟨mini.perm pmT, asc_of (fun y hy => lenL y (pmT.mem_iff.mp hy)) srt (pmT.nodup_iff.mpr nd)⟩ (by rw [pmT.length_eq]; exact ll)
  obtain ⟨t, c, e, h1, h2⟩ := fz z (pm.mem_iff.mp hz2)
  obtain ⟨_, _, a3, a4⟩ := gn_iff.mp h1
  obtain ⟨_, _, b3, b4⟩ := gn_iff.mp h2
  have tr : t ≠ r := fun z => by rw [z, nr] at a4; cases a4
  have cr : c ≠ r := fun z => by rw [z, nr] at b4; cases b4
  exact ⟨t, c, e, gn_iff.mpr ⟨tr, tr, a3, by rw [upd_ne tr]; exact a4⟩, gn_iff.mpr ⟨cr, cr, b3, by rw [upd_ne cr]; exact b4⟩⟩
end
section
variable {P : Program} {w : World} {K : PySem.W.Frag} {mg : Str → Option Value} {base : Heap}
/-- a comprehension of numbers over a range -/
theorem lc_intR {n : Nat} (hn : n ≤ 90000) {j : Nat} {te : TE} {vs : List Nat} {σ : L2.St} {H1 : Hp} {D : Addr} {Qd : Hp → Prop} (nD : H1 D = none) (f : Nat → Int) (hw : ∀ x, wipe ((wipe σ vs).set j x) vs = wipe σ vs)
    (hs : ∀ i H, i < n → Same H1 H → te ((wipe σ vs).set j (some (.int ((0 : Int) + (i : Int))))) H fun y H4 => y = .int (f i) ∧ Same H H4)
    (mono : ∀ σ H (Q Q' : VK), (∀ v H', Q v H' → Q' v H') → te σ H Q → te σ H Q')
    (hd : ∀ H, Same H1 H → H D = some (.lst (((List.range n).map f).map V.int)) → Qd H) :
    ∃ W : Nat → Nat → Hp → Prop, (∃ m, W 0 m (upd H1 D (.lst []))) ∧ ∀ i m H, W i m H →
      ((Itr 0 n).stop i H ∧ Qd H) ∨ ((Itr 0 n).go i H ∧ ∃ Nx : Hp → Prop, (∀ H', Nx H' → ∃ m', m' < m ∧ W (i + 1) m' H') ∧ ∀ x H', (Itr 0 n).yld i H x H' → gName j x (wipe σ vs) H' fun σ2 H2 => wipe σ2 vs = wipe σ vs ∧ tYes σ2 H2 fun b H3 =>
        if b = true then te σ2 H3 fun y H4 => ∃ acc, H4 D = some (.lst acc) ∧ acc.length < sizeLine ∧ Nx (upd H4 D (.lst (acc ++ [y]))) else Nx H3) := by
  refine lc_range (fun i H' => Same H1 H' ∧ H' D = some (.lst (((List.range i).map f).map V.int))) ⟨same_new nD, upd_same⟩ ?_ fun H h => hd H h.1 h.2
  rintro i H hi ⟨sm, eD⟩
  refine ⟨hw _, ?_⟩
  show te _ H _
  refine mono _ _ _ _ ?_ (hs i H hi sm)
  rintro v H' ⟨rfl, s⟩
  refine ⟨_, s _ _ eD, ?_, Same.mut (sm.trans s) nD, ?_⟩
  · rw [List.length_map, List.length_map, List.length_range]
    exact szl (by omega)
  · rw [upd_same, List.range_succ, List.map_append, List.map_append]
    rfl
abbrev s_law_cell : Stmt := topS 10
theorem sc_law_cell : FnScope ["script", "k"] ["script", "k"] (defScope s_law_cell) := ⟨rfl, rfl, rfl, by decide +kernel, rfl, by decide +kernel, by decide +kernel⟩
-- _law_cell slots: script=0 k=1 globals: len abs int
def spCellP (K : PySem.W.Frag) : Sp := fun vs H Q _ => ∃ (a : Addr) (ns : List Int) (k : Nat), vs = [.ref a, .int (k : Int)] ∧ SqL K H a (ns.map V.int) ∧ ∀ z : Int, 0 ≤ z → Q (.int z) H
theorem fd_law_cell {f : Addr} {fd : FuncData} (F : Fun K "_law_cell" "_law_cell" s_law_cell f fd) (m : mg "_law_cell" = some (.ref f)) (B : Bt mg) : Fd P w K mg base "_law_cell" ["script", "k"] 1 (spCellP K) := by
  refine ⟨f, fd, F.ok sc_law_cell (fun vs H Q E h => ?_) (fun cdv A outer s H vs Q E hr h => ?_), m, F.kp, F.binds (ps := ["script", "k"]) fun _ _ _ _ _ _ us hl => match us, hl with | [_, _], _ => rfl⟩
  · obtain ⟨a, ns, k, rfl, _⟩ := h
    rfl
  obtain ⟨a, ns, k, rfl, hs, q⟩ := h
  refine ⟨_, (pss_cons (ps_if (pt_cmpR op_lt (pv 1) (pe_callB (cLen K) (by rfl) B.len PySem.boot_len (pa_cons (pv 0) pa_nil)) (nomark _))
 (pss_one (ps_ret (pe_callB call_abs (by rfl) B.abs (by decide +kernel) (pa_cons (pe_callTy call_int1 (by rfl) B.int (by decide +kernel) (pa_cons (pe_ix (ixQ K) (pv 0) (pv 1) (fun _ _ => rfl)) pa_nil)) pa_nil))))
 pss_nil)
 (pss_one (ps_ret pe_int))), ?_⟩
  refine ⟨_, rfl, _, rfl, a, _, rfl, .inl hs, _, _, rfl, rfl, _, rfl, ite2 (fun e => ?_) (fun e => ?_)⟩
  · have e1 := of_decide_eq_true e
    rw [List.length_map] at e1
    have e2 : k < ns.length := by omega
    refine ⟨_, rfl, _, rfl, .inl ⟨a, _, _, _, rfl, rfl, hs, atI_nat (get_map (List.getElem?_eq_getElem e2)), .inl ⟨_, rfl, _, rfl, q _ ?_⟩⟩⟩
    split <;> omega
  · exact q _ (by decide)
abbrev s_law_digits : Stmt := topS 11
theorem sc_law_digits : FnScope ["cell", "base", "most", "digits", "large", "k"] ["cell", "base", "most"] (defScope s_law_digits) := ⟨rfl, rfl, rfl, by decide +kernel, rfl, by decide +kernel, by decide +kernel⟩
-- _law_digits slots: cell=0 base=1 most=2 digits=3 large=4 k=5 globals: range int
def spDigits (K : PySem.W.Frag) : Sp := fun vs H Q _ => ∃ (c b : Int) (n : Nat), vs = [.int c, .int b, .int (n : Int)] ∧ 0 ≤ c ∧ 0 < b ∧ b < 1073741824 ∧ n ≤ 10000 ∧
  ∀ H' p (ds : List Int), Same H H' → H p = none → H' p = some (.lst (ds.map V.int)) → ds.length = n → (∀ d ∈ ds, 0 ≤ d ∧ d < b) → Q (.ref p) H'
theorem fd_law_digits {f : Addr} {fd : FuncData} (F : Fun K "_law_digits" "_law_digits" s_law_digits f fd) (m : mg "_law_digits" = some (.ref f)) (B : Bt mg) : Fd P w K mg base "_law_digits" ["cell", "base", "most"] 1 (spDigits K) := by
  refine ⟨f, fd, F.ok sc_law_digits (fun vs H Q E h => ?_) (fun cdv A outer s H vs Q E hr h => ?_), m, F.kp, F.binds (ps := ["cell", "base", "most"]) fun _ _ _ _ _ _ us hl => match us, hl with | [_, _, _], _ => rfl⟩
  · obtain ⟨c, b, n, rfl, _⟩ := h
    rfl
  obtain ⟨c, b, n, rfl, hc, hb, hb2, hn, q⟩ := h
  refine ⟨_, (pss_cons (ps_set (i := 3) sc_law_digits.nd rfl (Or.inl rfl) (pe_lst pa_nil))
 (pss_cons (ps_set (i := 4) sc_law_digits.nd rfl (Or.inl rfl) (pe_cmpR op_ge (pv 0) (pe_op op_pow pe_int pe_int) (nomark _)))
 (pss_cons (ps_for PassesOwn.never rfl (pi_range1 rfl B.range (pa_cons (pv 2) pa_nil)) (pg_name (i := 5) sc_law_digits.nd rfl (Or.inl rfl))
 (pss_one (ps_if (pt_val (pv 4))
 (pss_cons (ps_expr (peBm K PySem.F.plainAttrs_list PySem.F.slot_list_append PySem.F.type_list_append mt_append (pv 3) (pa_cons (pe_op op_mod (pe_callTy call_int1 (by rfl) B.int (by decide +kernel) (pa_cons (pv 0) pa_nil)) (pv 1)) pa_nil)))
 (pss_one (ps_set (i := 0) sc_law_digits.nd rfl (Or.inl rfl) (pe_op op_fdiv (pv 0) (pv 1)))))
 (pss_one (ps_expr (peBm K PySem.F.plainAttrs_list PySem.F.slot_list_append PySem.F.type_list_append mt_append (pv 3) (pa_cons (pe_op op_mod (pe_op op_mod (pe_callTy call_int1 (by rfl) B.int (by decide +kernel) (pa_cons (pe_op op_add (pe_op op_add (pe_op op_mul (pv 0) pe_int) (pe_op op_mul (pe_op op_mul (pe_op op_add (pv 5) pe_int) (pe_op op_add (pv 5) pe_int)) pe_int)) (pe_op op_mul (pe_op op_fdiv (pv 0) pe_int) (pv 5))) pa_nil)) pe_int) (pv 1)) pa_nil)))))))
 (pss_one (ps_ret (pv 3)))))), ?_⟩
  refine ⟨sz (by decide), fun o no => ?_⟩
  refine ⟨_, rfl, _, _, rfl, rfl, ⟨by decide, by decide, by decide⟩, _, _, rfl, rfl, ?_⟩
  refine ⟨_, rfl, n, rfl, by omega, by omega, for_range (lo := 0) (n := n) (fun i σ' H' => ∃ (lg : Bool) (c' : Int) (y : Option V) (ds : List Int), σ' = [some (.int c'), some (.int b), some (.int (n : Int)), some (.ref o), some (.bl lg), y] ∧ 0 ≤ c' ∧ Same H H' ∧ H' o = some (.lst (ds.map V.int)) ∧ ds.length = i ∧ ∀ d ∈ ds, 0 ≤ d ∧ d < b) ⟨_, c, none, [], rfl, hc, same_new no, upd_same, rfl, fun d hd => by cases hd⟩ ?_ ?_⟩
  · rintro i σ' H' hi ⟨lg, c', y, ds, rfl, hc', sm, eo, hl, hd⟩
    have dl : (ds.map V.int).length < sizeLine := szl (by rw [List.length_map]; omega)
    have hm : ∀ z : Int, 0 ≤ z % b ∧ z % b < b := fun z => ⟨Int.emod_nonneg _ (by omega), Int.emod_lt_of_pos _ hb⟩
    have fin : ∀ (c2 d : Int), 0 ≤ c2 → (0 ≤ d ∧ d < b) → ∃ (lg' : Bool) (c' : Int) (y : Option V) (ds' : List Int), [some (V.int c2), some (.int b), some (.int (n : Int)), some (.ref o), some (.bl lg), some (.int (0 + (i : Int)))] = [some (.int c'), some (.int b), some (.int (n : Int)), some (.ref o), some (.bl lg'), y] ∧ 0 ≤ c' ∧ Same H (upd H' o (.lst (ds.map V.int ++ [.int d]))) ∧ (upd H' o (.lst (ds.map V.int ++ [.int d]))) o = some (.lst (ds'.map V.int)) ∧ ds'.length = i + 1 ∧ ∀ d ∈ ds', 0 ≤ d ∧ d < b := fun c2 d h1 h2 =>
      ⟨lg, c2, _, ds ++ [d], rfl, h1, Same.mut sm no, by rw [upd_same, List.map_append]; rfl, by rw [List.length_append, hl]; rfl, fun x hx => by
        rcases List.mem_append.mp hx with hx | hx
        · exact hd x hx
        · rw [List.mem_singleton.mp hx]; exact h2⟩
    refine ⟨_, rfl, lg, rfl, ?_⟩
    cases lg with
    | true =>
      refine iteT ?_
      refine ⟨_, rfl, .inl ⟨rfl, _, sq eo⟩, _, rfl, .inl ⟨_, rfl, _, rfl, _, _, rfl, rfl, hb, o, _, _, rfl, rfl, eo, dl, ?_⟩⟩
      refine ⟨_, rfl, _, rfl, _, _, rfl, rfl, ⟨hb, hb2⟩, ?_⟩
      exact fin _ _ (Int.ediv_nonneg hc' (by omega)) (hm _)
    | false =>
      refine iteF ?_
      refine ⟨_, rfl, .inl ⟨rfl, _, sq eo⟩, _, rfl, _, _, rfl, rfl, .inr ⟨by decide, by decide⟩, ?_⟩
      refine ⟨_, rfl, _, _, rfl, rfl, _, rfl, _, _, rfl, rfl, _, _, rfl, rfl, .inl ⟨by omega, by omega⟩, _, _, rfl, rfl, .inr ⟨by decide, by decide⟩, _, _, rfl, rfl, ?_⟩
      refine ⟨_, rfl, _, _, rfl, rfl, ⟨by decide, by decide⟩, _, rfl, _, _, rfl, rfl, .inr ⟨by omega, by omega⟩, _, _, rfl, rfl, ?_⟩
      refine .inl ⟨_, rfl, _, _, rfl, rfl, (by show (0 : Int) < 2147483647; decide), _, rfl, _, _, rfl, rfl, hb, o, _, _, rfl, rfl, eo, dl, ?_⟩
      exact fin _ _ hc' (hm _)
  · rintro σ' H' ⟨lg, c', y, ds, rfl, hc', sm, eo, hl, hd⟩
    exact ⟨_, rfl, q H' o ds sm no eo hl hd⟩
end
section
variable {P : Program} {w : World} {K : PySem.W.Frag} {mg : Str → Option Value} {base : Heap}
abbrev s_law_covers : Stmt := topS 12
theorem sc_law_covers : FnScope ["first", "second", "k"] ["first", "second"] (defScope s_law_covers) := ⟨rfl, rfl, rfl, by decide +kernel, rfl, by decide +kernel, by decide +kernel⟩
-- _law_covers slots: first=0 second=1 k=2 globals: range len
def spLCov (K : PySem.W.Frag) : Sp := fun vs H Q _ => ∃ (x y : V) (s t : Int) (ms ns : List Int), vs = [x, y] ∧ Sit K H x s ms ∧ Sit K H y t ns ∧ ms.length = ns.length ∧ ns.length ≤ 1000 ∧ Q (.bl (covB s ms t ns)) H
theorem fd_law_covers {f : Addr} {fd : FuncData} (F : Fun K "_law_covers" "_law_covers" s_law_covers f fd) (m : mg "_law_covers" = some (.ref f)) (B : Bt mg) : Fd P w K mg base "_law_covers" ["first", "second"] 1 (spLCov K) := by
  refine ⟨f, fd, F.ok sc_law_covers (fun vs H Q E h => ?_) (fun cdv A outer s H vs Q E hr h => ?_), m, F.kp, F.binds (ps := ["first", "second"]) fun _ _ _ _ _ _ us hl => match us, hl with | [_, _], _ => rfl⟩
  · obtain ⟨x, y, s, t, ms, ns, rfl, _⟩ := h
    rfl
  obtain ⟨x, y, s, t, ms, ns, rfl, ⟨a, ca, rfl, ha, hca⟩, ⟨b, cb, rfl, hb, hcb⟩, hl, hn, q⟩ := h
  refine ⟨_, (pss_cons (ps_if (pt_cmpR op_ne (pe_ix (ixT K) (pv 0) pe_int (fun _ _ => rfl)) (pe_ix (ixT K) (pv 1) pe_int (fun _ _ => rfl)) (nomark _))
 (pss_one (ps_ret pe_bl))
 pss_nil)
 (pss_cons (ps_for PassesOwn.never rfl (pi_range1 rfl B.range (pa_cons (pe_callB (cLen K) (by rfl) B.len PySem.boot_len (pa_cons (pe_ix (ixT K) (pv 1) pe_int (fun _ _ => rfl)) pa_nil)) pa_nil)) (pg_name (i := 2) sc_law_covers.nd rfl (Or.inl rfl))
 (pss_one (ps_if (pt_cmpR op_lt (pe_ix (ixL K) (pe_ix (ixT K) (pv 0) pe_int (fun _ _ => rfl)) (pv 2) (fun _ _ => rfl)) (pe_ix (ixL K) (pe_ix (ixT K) (pv 1) pe_int (fun _ _ => rfl)) (pv 2) (fun _ _ => rfl)) (nomark _))
 (pss_one (ps_ret pe_bl))
 pss_nil)))
 (pss_one (ps_ret pe_bl)))), ?_⟩
  refine ⟨_, rfl, _, _, _, _, rfl, rfl, ha, atI_nat (j := 0) rfl, _, rfl, _, _, _, _, rfl, rfl, hb, atI_nat (j := 0) rfl, rfl, _, rfl, ?_⟩
  by_cases est : s = t
  · subst est
    rw [show (!decide (V.int s = V.int s)) = false by rw [decide_eq_true rfl]; rfl]
    refine iteF ?_
    have ll : (ns.map V.int).length = ns.length := List.length_map _
    refine ⟨_, rfl, _, _, _, _, rfl, rfl, hb, atI_nat (j := 1) rfl, cb, _, rfl, .inl hcb, _, rfl, by rw [ll]; omega, by rw [ll]; omega, for_range (lo := 0) (n := (ns.map V.int).length) (fun i σ' H' => ∃ y2 : Option V, σ' = [some (.ref a), some (.ref b), y2] ∧ H' = H ∧ geAll (ms.take i) (ns.take i) = true) ⟨none, rfl, rfl, rfl⟩ ?_ ?_⟩
    · rintro i σ' H' hi ⟨y2, rfl, rfl, g⟩
      rw [ll] at hi
      have hz : (0 : Int) + (i : Int) = (i : Int) := by omega
      have hu : ms[i]? = some (ms.getD i 0) := gd (by omega)
      have hv : ns[i]? = some (ns.getD i 0) := gd hi
      refine ⟨_, rfl, _, _, _, _, rfl, rfl, ha, atI_nat (j := 1) rfl, _, rfl, _, _, _, _, rfl, rfl, hca, at_gd hz (by omega), _, rfl, _, _, _, _, rfl, rfl, hb, atI_nat (j := 1) rfl, _, rfl, _, _, _, _, rfl, rfl, hcb, at_gd hz hi, _, _, rfl, rfl, _, rfl, ite2 (fun e => ?_) (fun e => ?_)⟩
      · have e1 := of_decide_eq_true e
        have e2 : covB s ms s ns = false := by
          unfold covB
          rw [geAll_false (i := i + 1), Bool.and_false]
          rw [geAll_take hu hv, decide_eq_false (show ¬ ns.getD i 0 ≤ ms.getD i 0 by omega), Bool.and_false]
        rw [← e2]
        exact q
      · have e1 : ¬ ms.getD i 0 < ns.getD i 0 := fun z => e (decide_eq_true z)
        exact ⟨_, rfl, rfl, by rw [geAll_take hu hv, g, decide_eq_true (show ns.getD i 0 ≤ ms.getD i 0 by omega)]; rfl⟩
    · rintro σ' H' ⟨y2, rfl, rfl, g⟩
      rw [ll] at g
      have e2 : covB s ms s ns = true := by
        unfold covB
        rw [← hl, List.take_length, hl, List.take_length] at g
        rw [g, decide_eq_true (show s = s from rfl)]
        rfl
      rw [← e2]
      exact q
  · rw [show (!decide (V.int s = V.int t)) = true by rw [decide_eq_false (fun z => est (by cases z; rfl))]; rfl]
    refine iteT ?_
    rw [← show covB s ms t ns = false by unfold covB; rw [decide_eq_false est]; rfl]
    exact q
end
section
variable {P : Program} {w : World} {K : PySem.W.Frag} {mg : Str → Option Value} {base : Heap}
abbrev s_is_above : Stmt := topS 8
theorem sc_is_above : FnScope ["situation", "basis", "element"] ["situation", "basis"] (defScope s_is_above) := ⟨rfl, rfl, rfl, by decide +kernel, rfl, by decide +kernel, by decide +kernel⟩
-- is_above slots: situation=0 basis=1 element=2 globals: covers
def spAbove (K : PySem.W.Frag) : Sp := fun vs H Q _ => ∃ (x : V) (a : Addr) (b : Sn) (xs : List V) (bs : List Sn), vs = [x, .ref a] ∧ Sit K H x b.1 b.2 ∧ SqL K H a xs ∧ DpAll K H xs (bs.map sD) ∧ Lens b.2.length bs ∧ ∀ H', Same H H' → Q (.bl (bs.any (covS b))) H'
theorem any_take {bs : List Sn} {p : Sn → Bool} {i : Nat} {b : Sn} (h : bs[i]? = some b) : (bs.take (i + 1)).any p = ((bs.take i).any p || p b) := by
  rw [take_snoc h, List.any_append]
  simp
theorem any_at {bs : List Sn} {p : Sn → Bool} {i : Nat} {b : Sn} (h : bs[i]? = some b) (e : p b = true) : bs.any p = true := List.any_eq_true.mpr ⟨b, List.mem_of_getElem? h, e⟩
theorem fd_is_above {f : Addr} {fd : FuncData} (F : Fun K "is_above" "is_above" s_is_above f fd) (m : mg "is_above" = some (.ref f)) (D_covers : Fd P w K mg base "covers" ["first", "second"] 1 (spCov K)) : Fd P w K mg base "is_above" ["situation", "basis"] 2 (spAbove K) := by
  refine ⟨f, fd, F.ok sc_is_above (fun vs H Q E h => ?_) (fun cdv A outer s H vs Q E hr h => ?_), m, F.kp, F.binds (ps := ["situation", "basis"]) fun _ _ _ _ _ _ us hl => match us, hl with | [_, _], _ => rfl⟩
  · obtain ⟨x, a, b, xs, bs, rfl, _⟩ := h
    rfl
  obtain ⟨x, a, b, xs, bs, rfl, hx, ha, hd, hl, q⟩ := h
  refine ⟨_, (pss_cons (ps_for PassesOwn.never rfl (piL K (pv 1)) (pg_name (i := 2) sc_is_above.nd rfl (Or.inl rfl))
 (pss_one (ps_if (pt_val (pe_fn D_covers (hr.mono (by decide)) rfl (pa_cons (pv 0) (pa_cons (pv 2) pa_nil))))
 (pss_one (ps_ret pe_bl))
 pss_nil)))
 (pss_one (ps_ret pe_bl))), ?_⟩
  have xl := dpa_lenS hd
  refine ⟨_, rfl, a, rfl, ⟨_, ha⟩, for_list (xs := xs) (fun i σ' H' => ∃ y2 : Option V, σ' = [some x, some (.ref a), y2] ∧ Same H H' ∧ (bs.take i).any (covS b) = false) ⟨none, rfl, Same.refl _, rfl⟩ ?_ ?_ ?_⟩
  · rintro i σ' H' _ ⟨y2, rfl, sm, _⟩
    exact sm.seq ha
  · rintro i u σ' H' hu ⟨y2, rfl, sm, g⟩
    have hi : i < bs.length := by rw [← xl]; exact (List.getElem?_eq_some_iff.mp hu).1
    have hb : bs[i]? = some bs[i] := List.getElem?_eq_getElem hi
    obtain ⟨v, hv, du⟩ := dpa_atS hd hb
    obtain rfl : u = v := Option.some.inj (hu.symm.trans hv)
    refine ⟨_, rfl, _, rfl, x, u, b.1, bs[i].1, b.2, bs[i].2, rfl, Same.sit sm hx, dp_sit (dp_mono sm du), (hl _ (List.mem_of_getElem? hb)).symm, fun H2 s2 => ⟨_, rfl, ?_⟩⟩
    have sm2 := sm.trans s2
    cases c : covB b.1 b.2 bs[i].1 bs[i].2 with
    | true =>
      refine iteT ?_
      rw [← any_at (p := covS b) hb c]
      exact q _ sm2
    | false =>
      refine iteF ⟨_, rfl, sm2, ?_⟩
      rw [any_take hb, g, show covS b bs[i] = false from c]
      rfl
  · rintro σ' H' ⟨y2, rfl, sm, g⟩
    rw [xl, List.take_length] at g
    have q' := q H' sm
    rw [g] at q'
    exact q'
end
section
variable {P : Program} {w : World} {K : PySem.W.Frag} {mg : Str → Option Value} {base : Heap}
abbrev s_law_above : Stmt := topS 13
theorem sc_law_above : FnScope ["situation", "members", "element"] ["situation", "members"] (defScope s_law_above) := ⟨rfl, rfl, rfl, by decide +kernel, rfl, by decide +kernel, by decide +kernel⟩
-- _law_above slots: situation=0 members=1 element=2 globals: _law_covers
def spLAbove (K : PySem.W.Frag) : Sp := fun vs H Q _ => ∃ (x : V) (a : Addr) (b : Sn) (xs : List V) (bs : List Sn), vs = [x, .ref a] ∧ Sit K H x b.1 b.2 ∧ SqL K H a xs ∧ DpAll K H xs (bs.map sD) ∧ Lens b.2.length bs ∧ b.2.length ≤ 1000 ∧ Q (.bl (bs.any (covS b))) H
theorem fd_law_above {f : Addr} {fd : FuncData} (F : Fun K "_law_above" "_law_above" s_law_above f fd) (m : mg "_law_above" = some (.ref f)) (D_law_covers : Fd P w K mg base "_law_covers" ["first", "second"] 1 (spLCov K)) : Fd P w K mg base "_law_above" ["situation", "members"] 2 (spLAbove K) := by
  refine ⟨f, fd, F.ok sc_law_above (fun vs H Q E h => ?_) (fun cdv A outer s H vs Q E hr h => ?_), m, F.kp, F.binds (ps := ["situation", "members"]) fun _ _ _ _ _ _ us hl => match us, hl with | [_, _], _ => rfl⟩
  · obtain ⟨x, a, b, xs, bs, rfl, _⟩ := h
    rfl
  obtain ⟨x, a, b, xs, bs, rfl, hx, ha, hd, hl, hz, q⟩ := h
  refine ⟨_, (pss_cons (ps_for PassesOwn.never rfl (piL K (pv 1)) (pg_name (i := 2) sc_law_above.nd rfl (Or.inl rfl))
 (pss_one (ps_if (pt_val (pe_fn D_law_covers (hr.mono (by decide)) rfl (pa_cons (pv 0) (pa_cons (pv 2) pa_nil))))
 (pss_one (ps_ret pe_bl))
 pss_nil)))
 (pss_one (ps_ret pe_bl))), ?_⟩
  have xl := dpa_lenS hd
  refine ⟨_, rfl, a, rfl, ⟨_, ha⟩, for_list (xs := xs) (fun i σ' H' => ∃ y2 : Option V, σ' = [some x, some (.ref a), y2] ∧ H' = H ∧ (bs.take i).any (covS b) = false) ⟨none, rfl, rfl, rfl⟩ ?_ ?_ ?_⟩
  · rintro i σ' H' _ ⟨y2, rfl, rfl, _⟩
    exact ha
  · rintro i u σ' H' hu ⟨y2, rfl, rfl, g⟩
    have hi : i < bs.length := by rw [← xl]; exact (List.getElem?_eq_some_iff.mp hu).1
    have hb : bs[i]? = some bs[i] := List.getElem?_eq_getElem hi
    obtain ⟨v, hv, du⟩ := dpa_atS hd hb
    obtain rfl : u = v := Option.some.inj (hu.symm.trans hv)
    have el := hl _ (List.mem_of_getElem? hb)
    refine ⟨_, rfl, _, rfl, x, u, b.1, bs[i].1, b.2, bs[i].2, rfl, hx, dp_sit du, el.symm, by omega, ⟨_, rfl, ?_⟩⟩
    cases c : covB b.1 b.2 bs[i].1 bs[i].2 with
    | true =>
      refine iteT ?_
      rw [← any_at (p := covS b) hb c]
      exact q
    | false =>
      refine iteF ⟨_, rfl, rfl, ?_⟩
      rw [any_take hb, g, show covS b bs[i] = false from c]
      rfl
  · rintro σ' H' ⟨y2, rfl, rfl, g⟩
    rw [xl, List.take_length] at g
    rw [g] at q
    exact q
theorem ltL_pre {ms ns : List Int} {u v : Int} : ∀ {i : Nat}, ms.take i = ns.take i → ms[i]? = some u → ns[i]? = some v → u ≠ v → ltL ms ns = decide (u < v) := by
  induction ms generalizing ns with
  | nil => intro i _ h; simp at h
  | cons a ms ih =>
    intro i e h1 h2 ne
    cases ns with
    | nil => simp at h2
    | cons b ns =>
      cases i with
      | zero =>
        cases h1
        cases h2
        unfold ltL
        rw [if_neg ne]
      | succ i =>
        obtain ⟨e1, e2⟩ := List.cons.inj e
        unfold ltL
        rw [if_pos e1]
        exact ih e2 h1 h2 ne
abbrev s_law_less : Stmt := topS 15
theorem sc_law_less : FnScope ["first", "second", "k"] ["first", "second"] (defScope s_law_less) := ⟨rfl, rfl, rfl, by decide +kernel, rfl, by decide +kernel, by decide +kernel⟩
-- _law_less slots: first=0 second=1 k=2 globals: range len
def spLLess (K : PySem.W.Frag) : Sp := fun vs H Q _ => ∃ (x y : V) (b c : Sn), vs = [x, y] ∧ Sit K H x b.1 b.2 ∧ Sit K H y c.1 c.2 ∧ b.2.length = c.2.length ∧ c.2.length ≤ 1000 ∧ Q (.bl (ltS b c)) H
theorem fd_law_less {f : Addr} {fd : FuncData} (F : Fun K "_law_less" "_law_less" s_law_less f fd) (m : mg "_law_less" = some (.ref f)) (B : Bt mg) : Fd P w K mg base "_law_less" ["first", "second"] 1 (spLLess K) := by
  refine ⟨f, fd, F.ok sc_law_less (fun vs H Q E h => ?_) (fun cdv A outer s H vs Q E hr h => ?_), m, F.kp, F.binds (ps := ["first", "second"]) fun _ _ _ _ _ _ us hl => match us, hl with | [_, _], _ => rfl⟩
  · obtain ⟨x, y, b, c, rfl, _⟩ := h
    rfl
  obtain ⟨x, y, ⟨s, ms⟩, ⟨t, ns⟩, rfl, ⟨a, ca, rfl, ha, hca⟩, ⟨b, cb, rfl, hb, hcb⟩, hl, hn, q⟩ := h
  dsimp only at ha hca hb hcb hl hn
  refine ⟨_, (pss_cons (ps_if (pt_cmpR op_ne (pe_ix (ixT K) (pv 0) pe_int (fun _ _ => rfl)) (pe_ix (ixT K) (pv 1) pe_int (fun _ _ => rfl)) (nomark _))
 (pss_one (ps_ret (pe_cmpR op_lt (pe_ix (ixT K) (pv 0) pe_int (fun _ _ => rfl)) (pe_ix (ixT K) (pv 1) pe_int (fun _ _ => rfl)) (nomark _))))
 pss_nil)
 (pss_cons (ps_for PassesOwn.never rfl (pi_range1 rfl B.range (pa_cons (pe_callB (cLen K) (by rfl) B.len PySem.boot_len (pa_cons (pe_ix (ixT K) (pv 0) pe_int (fun _ _ => rfl)) pa_nil)) pa_nil)) (pg_name (i := 2) sc_law_less.nd rfl (Or.inl rfl))
 (pss_one (ps_if (pt_cmpR op_ne (pe_ix (ixL K) (pe_ix (ixT K) (pv 0) pe_int (fun _ _ => rfl)) (pv 2) (fun _ _ => rfl)) (pe_ix (ixL K) (pe_ix (ixT K) (pv 1) pe_int (fun _ _ => rfl)) (pv 2) (fun _ _ => rfl)) (nomark _))
 (pss_one (ps_ret (pe_cmpR op_lt (pe_ix (ixL K) (pe_ix (ixT K) (pv 0) pe_int (fun _ _ => rfl)) (pv 2) (fun _ _ => rfl)) (pe_ix (ixL K) (pe_ix (ixT K) (pv 1) pe_int (fun _ _ => rfl)) (pv 2) (fun _ _ => rfl)) (nomark _))))
 pss_nil)))
 (pss_one (ps_ret pe_bl)))), ?_⟩
  refine ⟨_, rfl, _, _, _, _, rfl, rfl, ha, atI_nat (j := 0) rfl, _, rfl, _, _, _, _, rfl, rfl, hb, atI_nat (j := 0) rfl, rfl, _, rfl, ?_⟩
  by_cases est : s = t
  · subst est
    rw [show (!decide (V.int s = V.int s)) = false by rw [decide_eq_true rfl]; rfl]
    refine iteF ?_
    have ll : (ms.map V.int).length = ms.length := List.length_map _
    refine ⟨_, rfl, _, _, _, _, rfl, rfl, ha, atI_nat (j := 1) rfl, ca, _, rfl, .inl hca, _, rfl, by rw [ll]; omega, by rw [ll]; omega, for_range (lo := 0) (n := (ms.map V.int).length) (fun i σ' H' => ∃ y2 : Option V, σ' = [some (.ref a), some (.ref b), y2] ∧ H' = H ∧ ms.take i = ns.take i) ⟨none, rfl, rfl, rfl⟩ ?_ ?_⟩
    · rintro i σ' H' hi ⟨y2, rfl, rfl, g⟩
      rw [ll] at hi
      have hz : (0 : Int) + (i : Int) = (i : Int) := by omega
      have hu : ms[i]? = some (ms.getD i 0) := gd hi
      have hv : ns[i]? = some (ns.getD i 0) := gd (by omega)
      refine ⟨_, rfl, _, _, _, _, rfl, rfl, ha, atI_nat (j := 1) rfl, _, rfl, _, _, _, _, rfl, rfl, hca, at_gd hz hi, _, rfl, _, _, _, _, rfl, rfl, hb, atI_nat (j := 1) rfl, _, rfl, _, _, _, _, rfl, rfl, hcb, at_gd hz (by omega), rfl, _, rfl, ?_⟩
      by_cases e : ms.getD i 0 = ns.getD i 0
      · rw [show (!decide (V.int (ms.getD i 0) = V.int (ns.getD i 0))) = false by rw [e, decide_eq_true rfl]; rfl]
        refine iteF ⟨_, rfl, rfl, ?_⟩
        rw [take_snoc hu, take_snoc hv, g, e]
      · rw [show (!decide (V.int (ms.getD i 0) = V.int (ns.getD i 0))) = true by rw [decide_eq_false (fun z => e (V.int.inj z))]; rfl]
        refine iteT ?_
        refine ⟨_, rfl, _, _, _, _, rfl, rfl, ha, atI_nat (j := 1) rfl, _, rfl, _, _, _, _, rfl, rfl, hca, at_gd hz hi, _, rfl, _, _, _, _, rfl, rfl, hb, atI_nat (j := 1) rfl, _, rfl, _, _, _, _, rfl, rfl, hcb, at_gd hz (by omega), _, _, rfl, rfl, ?_⟩
        have e2 : ltS (s, ms) (s, ns) = decide (ms.getD i 0 < ns.getD i 0) := by
          unfold ltS
          rw [if_pos rfl]
          exact ltL_pre g hu hv e
        rw [e2] at q
        exact q
    · rintro σ' H' ⟨y2, rfl, rfl, g⟩
      rw [ll, List.take_length, hl, List.take_length] at g
      have e2 : ltS (s, ms) (s, ns) = false := by rw [g]; exact ltS_irr _
      rw [← e2]
      exact q
  · rw [show (!decide (V.int s = V.int t)) = true by rw [decide_eq_false (fun z => est (V.int.inj z))]; rfl]
    refine iteT ?_
    refine ⟨_, rfl, _, _, _, _, rfl, rfl, ha, atI_nat (j := 0) rfl, _, rfl, _, _, _, _, rfl, rfl, hb, atI_nat (j := 0) rfl, _, _, rfl, rfl, ?_⟩
    have e2 : ltS (s, ms) (t, ns) = decide (s < t) := by unfold ltS; rw [if_neg est]
    rw [e2] at q
    exact q
theorem FreshL.at' {G : Hp} : ∀ {vs : List V} {bs : List Sn}, FreshL G vs bs → ∀ {i : Nat} {v : V}, vs[i]? = some v → ∃ b, bs[i]? = some b ∧ FreshS G v b
  | _, _, .nil, i, v, h => by simp at h
  | _, _, .cons h t, 0, v, e => by cases e; exact ⟨_, rfl, h⟩
  | _, _, .cons h t, i + 1, v, e => FreshL.at' t (i := i) e
abbrev s_law_is_rows : Stmt := topS 17
theorem sc_law_is_rows : FnScope ["rows", "states", "places", "row", "count"] ["rows", "states", "places"] (defScope s_law_is_rows) := ⟨rfl, rfl, rfl, by decide +kernel, rfl, by decide +kernel, by decide +kernel⟩
-- _law_is_rows slots: rows=0 states=1 places=2 row=3 count=4 globals: isinstance list tuple len int bool
def spIsRows (K : PySem.W.Frag) : Sp := fun vs H Q _ => ∃ (a : Addr) (S : Int) (N : Nat) (xs : List V) (bs : List Sn), vs = [.ref a, .int S, .int (N : Int)] ∧ H a = some (.lst xs) ∧ FreshL H xs bs ∧ (∀ b ∈ bs, b.2.length = N ∧ 0 ≤ b.1 ∧ b.1 < S ∧ ∀ c ∈ b.2, 0 ≤ c) ∧ Q (.bl true) H
theorem fd_law_is_rows {f : Addr} {fd : FuncData} (F : Fun K "_law_is_rows" "_law_is_rows" s_law_is_rows f fd) (m : mg "_law_is_rows" = some (.ref f)) (B : Bt mg) : Fd P w K mg base "_law_is_rows" ["rows", "states", "places"] 1 (spIsRows K) := by
  refine ⟨f, fd, F.ok sc_law_is_rows (fun vs H Q E h => ?_) (fun cdv A outer s H vs Q E hr h => ?_), m, F.kp, F.binds (ps := ["rows", "states", "places"]) fun _ _ _ _ _ _ us hl => match us, hl with | [_, _, _], _ => rfl⟩
  · obtain ⟨a, S, N, xs, bs, rfl, _⟩ := h
    rfl
  obtain ⟨a, S, N, xs, bs, rfl, ha, hf, hb, q⟩ := h
  refine ⟨_, (pss_cons (ps_if (pt_not (pt_val (pe_callB (cIsi K) (by rfl) B.isinstance (by decide +kernel) (pa_cons (pv 0) (pa_cons (pe_bltn (v := .ty "list") (by rfl) B.list (by decide +kernel) rfl) pa_nil)))))
 (pss_one (ps_ret pe_bl))
 pss_nil)
 (pss_cons (ps_for PassesOwn.never rfl (piL K (pv 0)) (pg_name (i := 3) sc_law_is_rows.nd rfl (Or.inl rfl))
 (pss_cons (ps_if (PW.pt (pw_or (pt_not (pt_val (pe_callB (cIsi K) (by rfl) B.isinstance (by decide +kernel) (pa_cons (pv 3) (pa_cons (pe_bltn (v := .ty "tuple") (by rfl) B.tuple (by decide +kernel) rfl) pa_nil))))) (pw_or (pt_cmpR op_ne (pe_callB (cLen K) (by rfl) B.len PySem.boot_len (pa_cons (pv 3) pa_nil)) pe_int (nomark _)) (pw_or (pt_not (pt_val (pe_callB (cIsi K) (by rfl) B.isinstance (by decide +kernel) (pa_cons (pe_ix (ixT K) (pv 3) pe_int (fun _ _ => rfl)) (pa_cons (pe_bltn (v := .ty "int") (by rfl) B.int (by decide +kernel) rfl) pa_nil))))) (pw_or1 (pt_val (pe_callB (cIsi K) (by rfl) B.isinstance (by decide +kernel) (pa_cons (pe_ix (ixT K) (pv 3) pe_int (fun _ _ => rfl)) (pa_cons (pe_bltn (v := .ty "bool") (by rfl) B.bool (by decide +kernel) rfl) pa_nil)))))))))
 (pss_one (ps_ret pe_bl))
 pss_nil)
 (pss_cons (ps_if (PW.pt (pw_or (pt_not (pt_val (pe_callB (cIsi K) (by rfl) B.isinstance (by decide +kernel) (pa_cons (pe_ix (ixT K) (pv 3) pe_int (fun _ _ => rfl)) (pa_cons (pe_bltn (v := .ty "list") (by rfl) B.list (by decide +kernel) rfl) pa_nil))))) (pw_or (pt_cmpR op_ne (pe_callB (cLen K) (by rfl) B.len PySem.boot_len (pa_cons (pe_ix (ixT K) (pv 3) pe_int (fun _ _ => rfl)) pa_nil)) (pv 2) (nomark _)) (pw_or1 (pt_not (pt_chain op_le op_lt pe_int (pe_ix (ixT K) (pv 3) pe_int (fun _ _ => rfl)) (pv 1)))))))
 (pss_one (ps_ret pe_bl))
 pss_nil)
 (pss_one (ps_for PassesOwn.never rfl (piL K (pe_ix (ixT K) (pv 3) pe_int (fun _ _ => rfl))) (pg_name (i := 4) sc_law_is_rows.nd rfl (Or.inl rfl))
 (pss_one (ps_if (PW.pt (pw_or (pt_not (pt_val (pe_callB (cIsi K) (by rfl) B.isinstance (by decide +kernel) (pa_cons (pv 4) (pa_cons (pe_bltn (v := .ty "int") (by rfl) B.int (by decide +kernel) rfl) pa_nil))))) (pw_or (pt_val (pe_callB (cIsi K) (by rfl) B.isinstance (by decide +kernel) (pa_cons (pv 4) (pa_cons (pe_bltn (v := .ty "bool") (by rfl) B.bool (by decide +kernel) rfl) pa_nil)))) (pw_or1 (pt_cmpR op_lt (pv 4) pe_int (nomark _))))))
 (pss_one (ps_ret pe_bl))
 pss_nil)))))))
 (pss_one (ps_ret pe_bl)))), ?_⟩
  refine ansF (ans_not (ansIsi (T := "list") (b := true) (fun Q q => ⟨_, rfl, q⟩) (.base (.lst ha)) (by decide +kernel))) (iteF ?_)
  refine ⟨_, rfl, a, rfl, ⟨_, sq ha⟩, for_list (xs := xs) (fun i σ' H' => ∃ y3 y4 : Option V, σ' = [some (.ref a), some (.int S), some (.int (N : Int)), y3, y4] ∧ H' = H) ⟨none, none, rfl, rfl⟩ ?_ ?_ ?_⟩
  · rintro i σ' H' _ ⟨y3, y4, rfl, rfl⟩
    exact sq ha
  · rintro i u σ' H' hu ⟨y3, y4, rfl, rfl⟩
    obtain ⟨⟨s, cs⟩, hbi, t, c, rfl, ht, hc⟩ := hf.at' hu
    obtain ⟨h1, h2, h3, h4⟩ := hb _ (List.mem_of_getElem? hbi)
    dsimp only at ht hc h1 h2 h3 h4
    dsimp only [gName]
    have i0 : ∀ {j : Nat} {v : V}, [V.int s, V.ref c][j]? = some v → atI [V.int s, V.ref c] (j : Int) = some v := fun h => atI_nat h
    refine orM (ans_not (ansIsi (T := "tuple") (b := true) (fun Q q => ⟨_, rfl, q⟩) (.base (.tup ht)) (by decide +kernel))) ?_
    refine ⟨_, rfl, t, _, rfl, .inr (st ht), rfl, _, rfl, iteFx (by rfl) ?_⟩
    refine orA (ans_not (ansIsi (T := "int") (b := true) (fun Q q => ⟨_, rfl, _, _, _, _, rfl, rfl, st ht, atI_nat (j := 0) rfl, q⟩) (.base (.int _)) (by decide +kernel))) ?_
    refine ansF (ansIsi (T := "int") (b := false) (fun Q q => ⟨_, rfl, _, _, _, _, rfl, rfl, st ht, atI_nat (j := 0) rfl, q⟩) (.base (.int _)) (by decide +kernel)) (iteF ?_)
    dsimp only [tNext]
    refine orM (ans_not (ansIsi (T := "list") (b := true) (fun Q q => ⟨_, rfl, _, _, _, _, rfl, rfl, st ht, atI_nat (j := 1) rfl, q⟩) (.base (.lst hc)) (by decide +kernel))) ?_
    refine ⟨_, rfl, _, _, _, _, rfl, rfl, st ht, atI_nat (j := 1) rfl, c, _, rfl, .inl (sq hc), _, rfl, rfl, _, rfl, iteFx ?_ ?_⟩
    · rw [decide_eq_true (by rw [List.length_map, h1])]
      rfl
    refine ⟨_, rfl, _, _, _, _, rfl, rfl, st ht, atI_nat (j := 0) rfl, _, _, rfl, rfl, _, rfl, ?_⟩
    refine iteTx (decide_eq_true h2) ⟨_, rfl, _, _, rfl, rfl, _, rfl, iteFx (by rw [decide_eq_true h3]; rfl) ?_⟩
    refine ⟨_, rfl, _, _, _, _, rfl, rfl, st ht, atI_nat (j := 1) rfl, c, rfl, ⟨_, sq hc⟩, for_list (xs := cs.map V.int) (fun j σ' H'' => ∃ y4 : Option V, σ' = [some (.ref a), some (.int S), some (.int (N : Int)), some (.ref t), y4] ∧ H'' = H') ⟨_, rfl, rfl⟩ ?_ ?_ ?_⟩
    · rintro j σ' H'' _ ⟨y4, rfl, rfl⟩
      exact sq hc
    · rintro j v σ' H'' hv ⟨y4, rfl, rfl⟩
      obtain ⟨z, hz, rfl⟩ := get_map_inv hv
      dsimp only [gName]
      refine orA (ans_not (ansIsi (T := "int") (b := true) (fun Q q => ⟨_, rfl, q⟩) (.base (.int _)) (by decide +kernel))) ?_
      refine orA (ansIsi (T := "int") (b := false) (fun Q q => ⟨_, rfl, q⟩) (.base (.int _)) (by decide +kernel)) ?_
      refine ⟨_, rfl, _, _, rfl, rfl, _, rfl, iteFx (decide_eq_false (by have := h4 z (List.mem_of_getElem? hz); omega)) ?_⟩
      exact ⟨_, rfl, rfl⟩
    · rintro σ' H'' ⟨y4, rfl, rfl⟩
      exact ⟨_, _, rfl, rfl⟩
  · rintro σ' H' ⟨y3, y4, rfl, rfl⟩
    exact q
end
theorem mod_ps (z : Int) {m : Int} (h : 0 < m) : 0 ≤ z % m ∧ z % m < m := ⟨Int.emod_nonneg _ (by omega), Int.emod_lt_of_pos _ h⟩
theorem dpa_takeS {K : PySem.W.Frag} {H : Hp} : ∀ {xs : List V} {ds : List PyData} (k : Nat), DpAll K H xs ds → DpAll K H (xs.take k) (ds.take k)
  | _, _, 0, _ => by rw [List.take_zero, List.take_zero]; exact .nil
  | _, _, _ + 1, .nil => .nil
  | _, _, k + 1, .cons a t => .cons a (dpa_takeS k t)
theorem dpa_dropS {K : PySem.W.Frag} {H : Hp} : ∀ {xs : List V} {ds : List PyData} (k : Nat), DpAll K H xs ds → DpAll K H (xs.drop k) (ds.drop k)
  | _, _, 0, h => h
  | _, _, _ + 1, .nil => .nil
  | _, _, k + 1, .cons _ t => dpa_dropS k t
section
variable {P : Program} {w : World} {K : PySem.W.Frag} {mg : Str → Option Value} {base : Heap}
abbrev s_law_some : Stmt := topS 14
theorem sc_law_some : FnScope ["cell", "states", "places", "many", "most", "draws", "rows", "k", "part", "j"] ["cell", "states", "places", "many", "most"] (defScope s_law_some) := ⟨rfl, rfl, rfl, by decide +kernel, rfl, by decide +kernel, by decide +kernel⟩
-- _law_some slots: cell=0 states=1 places=2 many=3 most=4(cell) draws=5 rows=6 k=7 part=8(cell) j=9(None) globals: _law_digits range
def RowsOk (S : Int) (N : Nat) (top : Int) (bs : List Sn) : Prop := ∀ b ∈ bs, b.2.length = N ∧ 0 ≤ b.1 ∧ b.1 < S ∧ ∀ c ∈ b.2, 0 ≤ c ∧ c ≤ top
def spSome (K : PySem.W.Frag) : Sp := fun vs H Q _ => ∃ (c S : Int) (N m : Nat) (top : Int), vs = [.int c, .int S, .int (N : Int), .int (m : Int), .int top] ∧ 0 ≤ c ∧ 0 < S ∧ N ≤ 50 ∧ m ≤ 50 ∧ 0 ≤ top ∧
  ∀ H' p xs bs, Same H H' → H p = none → H' p = some (.lst xs) → DpAll K H' xs (bs.map sD) → bs.length = m → RowsOk S N top bs → Q (.ref p) H'
set_option maxHeartbeats 2000000 in
theorem fd_law_some {f : Addr} {fd : FuncData} (F : Fun K "_law_some" "_law_some" s_law_some f fd) (m : mg "_law_some" = some (.ref f)) (B : Bt mg) (D_law_digits : Fd P w K mg base "_law_digits" ["cell", "base", "most"] 1 (spDigits K)) : Fd P w K mg base "_law_some" ["cell", "states", "places", "many", "most"] 2 (spSome K) := by
  refine ⟨f, fd, F.ok sc_law_some (fun vs H Q E h => ?_) (fun cdv A outer s H vs Q E hr h => ?_), m, F.kp, F.binds (ps := ["cell", "states", "places", "many", "most"]) fun _ _ _ _ _ _ us hl => match us, hl with | [_, _, _, _, _], _ => rfl⟩
  · obtain ⟨c, S, N, m, top, rfl, _⟩ := h
    rfl
  obtain ⟨c, S, N, m, top, rfl, hc, hS, hN, hm, htop, q⟩ := h
  refine ⟨_, (pss_cons (ps_set (i := 5) sc_law_some.nd rfl (Or.inl rfl) (pe_fn D_law_digits (hr.mono (by decide)) rfl (pa_cons (pv 0) (pa_cons pe_int (pa_cons (pe_op op_mul (pv 3) (pe_op op_add (pv 2) pe_int)) pa_nil)))))
 (pss_cons (ps_set (i := 6) sc_law_some.nd rfl (Or.inl rfl) (pe_lst pa_nil))
 (pss_cons (ps_for PassesOwn.never rfl (pi_range1 rfl B.range (pa_cons (pv 3) pa_nil)) (pg_name (i := 7) sc_law_some.nd rfl (Or.inl rfl))
 (pss_cons (ps_set (i := 8) sc_law_some.nd rfl (Or.inr rfl) (pe_slice (slL K) (pv 5) (po_some (pe_op op_mul (pv 7) (pe_op op_add (pv 2) pe_int))) (po_some (pe_op op_mul (pe_op op_add (pv 7) pe_int) (pe_op op_add (pv 2) pe_int)))))
 (pss_one (ps_expr (peBm K PySem.F.plainAttrs_list PySem.F.slot_list_append PySem.F.type_list_append mt_append (pv 6) (pa_cons (pe_tup (pa_cons (pe_op op_mod (pe_ix (ixL K) (pv 8) (pv 2) (fun _ _ => rfl)) (pv 1)) (pa_cons (pe_lc (own := [("j", 9)]) (g := gName 9) (by rfl) sc_law_some.nd (pi_range1 rfl B.range (pa_cons (pv 2) pa_nil)) (blkOk_by (own := [("j", 9)]) (N := ["cell", "states", "places", "many", "most", "draws", "rows", "k", "part", "j"]) (sc := (defScope s_law_some)) (by decide +kernel)) (fun _ _ _ _ _ => (pg_name (i := 9) sc_law_some.nd rfl (Or.inl rfl))) (fun _ _ _ _ _ => pts_nil) (fun _ _ _ _ _ => (pe_op op_fdiv (pe_op op_mod (pe_ix (ixL K) (pv 8) (pv 9) (fun _ _ => rfl)) (pe_op op_add (pv 4) pe_int)) (pe_op op_add pe_int (pe_op op_mod (pe_op op_fdiv (pe_ix (ixL K) (pv 8) (pv 9) (fun _ _ => rfl)) pe_int) pe_int))))) pa_nil))) pa_nil))))))
 (pss_one (ps_ret (pv 6)))))), ?_⟩
  have emul : (m : Int) * ((N : Int) + 1) = ((m * (N + 1) : Nat) : Int) := by push_cast; rfl
  have bmul : m * (N + 1) ≤ 50 * 51 := Nat.mul_le_mul hm (by omega)
  refine ⟨_, rfl, _, rfl, _, rfl, _, _, rfl, rfl, _, _, rfl, rfl, .inl ⟨by omega, by omega⟩, c, 27720, m * (N + 1), congrArg (fun z => [V.int c, V.int 27720, V.int z]) emul, hc, by decide, by decide, by omega, ?_⟩
  intro Hd pd ds s1 npd epd ld hd
  dsimp only [gName]
  refine ⟨sz (by decide), fun o no => ?_⟩
  dsimp only [gName]
  refine ⟨_, rfl, m, rfl, by omega, by omega, for_range (lo := 0) (n := m) (fun i σ' H' => ∃ (y7 y8 : Option V) (xs : List V) (bs : List Sn), σ' = [some (.int c), some (.int S), some (.int (N : Int)), some (.int (m : Int)), some (.int top), some (.ref pd), some (.ref o), y7, y8, none] ∧ Same Hd H' ∧ H' o = some (.lst xs) ∧ FreshL (Gn o o Hd H') xs bs ∧ bs.length = i ∧ RowsOk S N top bs) ⟨none, none, [], [], rfl, same_new no, upd_same, .nil, rfl, fun b hb => nomatch hb⟩ ?_ ?_⟩
  · rintro k σ' H' hk ⟨y7, y8, xs, bs, rfl, sx, eo, fl, bl, ok⟩
    have hz : (0 : Int) + (k : Int) = (k : Int) := by omega
    have e1 : ((0 : Int) + (k : Int)) * ((N : Int) + 1) = ((k * (N + 1) : Nat) : Int) := by rw [hz]; push_cast; rfl
    have e2 : ((0 : Int) + (k : Int) + 1) * ((N : Int) + 1) = ((k * (N + 1) + (N + 1) : Nat) : Int) := by rw [hz]; push_cast; rw [Int.add_mul, Int.one_mul]
    have b2 : k * (N + 1) + (N + 1) ≤ ds.length := by
      rw [ld, ← Nat.succ_mul]
      exact Nat.mul_le_mul_right _ hk
    dsimp only [gName]
    refine ⟨_, rfl, _, rfl, _, rfl, _, _, rfl, rfl, _, _, rfl, rfl, .inl ⟨by omega, by omega⟩, _, rfl, _, rfl, _, _, rfl, rfl, _, rfl, _, _, rfl, rfl, _, _, rfl, rfl, .inl ⟨by omega, by omega⟩, _, rfl, pd, _, rfl, sq (sx _ _ epd), fun q1 m1 => ?_⟩
    dsimp only [gName]
    have ec := cut_ints (ds := ds) b2 e1 e2
    have lps : ((ds.drop (k * (N + 1))).take (N + 1)).length = N + 1 := by rw [List.length_take, List.length_drop]; omega
    have hps : ∀ d ∈ (ds.drop (k * (N + 1))).take (N + 1), 0 ≤ d := fun d h => (hd d (List.mem_of_mem_drop (List.mem_of_mem_take h))).1
    have ep1 : (upd H' q1 (.lst (cutV (ds.map V.int) (some (((0 : Int) + (k : Int)) * ((N : Int) + 1))) (some (((0 : Int) + (k : Int) + 1) * ((N : Int) + 1)))))) q1 = some (.lst (((ds.drop (k * (N + 1))).take (N + 1)).map V.int)) := by rw [upd_same, ec]
    have s12 : Same H' (upd H' q1 (.lst (cutV (ds.map V.int) (some (((0 : Int) + (k : Int)) * ((N : Int) + 1))) (some (((0 : Int) + (k : Int) + 1) * ((N : Int) + 1)))))) := same_new m1
    generalize upd H' q1 (.lst (cutV (ds.map V.int) (some (((0 : Int) + (k : Int)) * ((N : Int) + 1))) (some (((0 : Int) + (k : Int) + 1) * ((N : Int) + 1))))) = H2 at ep1 s12 ⊢
    generalize (ds.drop (k * (N + 1))).take (N + 1) = ps at lps hps ep1
    have eo2 := s12 _ _ eo
    refine ⟨_, rfl, .inl ⟨rfl, xs, sq eo2⟩, ?_⟩
    refine ⟨_, rfl, _, rfl, _, _, _, _, rfl, rfl, sq ep1, at_gd (j := N) rfl (by omega), _, rfl, _, _, rfl, rfl, hS, ?_⟩
    refine ⟨_, rfl, N, rfl, by omega, by omega, fun D nD => lc_range (lo := 0) (n := N) (fun j H' => Same H2 H' ∧ H' D = some (.lst (((List.range j).map fun j => ps.getD j 0 % (top + 1) / (1 + ps.getD j 0 / 100 % 2)).map V.int))) ⟨same_new nD, upd_same⟩ ?_ ?_⟩
    · rintro j H3 hj ⟨s3, e3⟩
      have hz : (0 : Int) + (j : Int) = (j : Int) := by omega
      have m2 := mod_ps (ps.getD j 0 / 100) (show (0 : Int) < 2 by decide)
      refine ⟨rfl, _, rfl, _, rfl, _, _, _, _, rfl, rfl, sq (s3 _ _ ep1), at_gd hz (by omega), _, rfl, _, _, rfl, rfl, _, _, rfl, rfl, (by omega), ?_⟩
      refine ⟨_, rfl, _, rfl, _, _, _, _, rfl, rfl, sq (s3 _ _ ep1), at_gd hz (by omega), _, _, rfl, rfl, ⟨by decide, by decide⟩, _, _, rfl, rfl, (by show (0 : Int) < 2; decide), _, _, rfl, rfl, _, _, rfl, rfl, ⟨by omega, by omega⟩, ?_⟩
      refine ⟨_, e3, ?_, Same.mut s3 nD, ?_⟩
      · rw [List.length_map, List.length_map, List.length_range]
        exact szl (by omega)
      · rw [upd_same, List.range_succ, List.map_append, List.map_append]
        rfl
    rintro H3 ⟨s3, e3⟩
    have lcs : ((List.range N).map fun j => ps.getD j 0 % (top + 1) / (1 + ps.getD j 0 / 100 % 2)).length = N := by rw [List.length_map, List.length_range]
    have hcs : ∀ z ∈ (List.range N).map fun j => ps.getD j 0 % (top + 1) / (1 + ps.getD j 0 / 100 % 2), 0 ≤ z ∧ z ≤ top := fun z hz => by
      obtain ⟨j, _, rfl⟩ := List.mem_map.mp hz
      have m1 := mod_ps (ps.getD j 0) (show (0 : Int) < top + 1 by omega)
      have m2 := mod_ps (ps.getD j 0 / 100) (show (0 : Int) < 2 by decide)
      have d0 : (0 : Int) ≤ 1 + ps.getD j 0 / 100 % 2 := by omega
      exact ⟨Int.ediv_nonneg m1.1 d0, Int.le_trans (Int.ediv_le_self _ m1.1) (by omega)⟩
    generalize ((List.range N).map fun j => ps.getD j 0 % (top + 1) / (1 + ps.getD j 0 / 100 % 2)) = cs at e3 lcs hcs
    have nD' : H' D = none := s12.free nD
    refine ⟨szc 2, fun t nt => ?_⟩
    have eo3 := s3 _ _ eo2
    refine ⟨o, xs, _, rfl, rfl, (same_new nt) _ _ eo3, szl (by rw [fl.len]; omega), ?_⟩
    have sx3 := (sx.trans s12).trans s3
    have tD : t ≠ D := fun e => by rw [e, e3] at nt; cases nt
    have to' : t ≠ o := fun e => by rw [e, eo3] at nt; cases nt
    have Do : D ≠ o := fun e => by rw [e, eo] at nD'; cases nD'
    have ms := mod_ps (ps.getD N 0) hS
    have gm : ∀ u, Same (Gn o o Hd H') (Gn o o Hd (upd (upd H3 t (.tup [.int (ps.getD N 0 % S), .ref D])) o u)) := fun u => (gn_same ((s12.trans s3).trans (same_new nt))).trans (gn_mut (.inl rfl))
    refine ⟨_, _, xs ++ [.ref t], bs ++ [(ps.getD N 0 % S, cs)], rfl, Same.mut (sx3.trans (same_new nt)) no, upd_same, FreshL.snoc ⟨t, D, rfl, gn_iff.mpr ⟨to', to', sx3.free nt, by rw [upd_ne to']; exact upd_same⟩, gn_iff.mpr ⟨Do, Do, (sx.trans s12).free nD, by rw [upd_ne Do, upd_ne (Ne.symm tD)]; exact e3⟩⟩ (fl.mono (gm _)), ?_, ?_⟩
    · rw [List.length_append, bl]
      rfl
    · intro b hb
      rcases snoc_mem.mp hb with hb | rfl
      · exact ok b hb
      · exact ⟨lcs, ms.1, ms.2, hcs⟩
  · rintro σ' H' ⟨y7, y8, xs, bs, rfl, sx, eo, fl, bl, ok⟩
    exact ⟨_, rfl, q H' o xs bs (s1.trans sx) (s1.free no) eo (dpAll_mono gn_out fl.dpa) bl ok⟩
end
section
variable {P : Program} {w : World} {K : PySem.W.Frag} {mg : Str → Option Value} {base : Heap}
theorem filt_snoc {L : List Sn} {p : Sn → Bool} {i : Nat} {b : Sn} (h : L[i]? = some b) : (L.take (i + 1)).filter p = (L.take i).filter p ++ if p b = true then [b] else [] := by
  rw [take_snoc h, List.filter_append]
  congr 1
  cases e : p b <;> simp [e]
theorem nodup_at {L : List Sn} {i : Nat} {b : Sn} (nd : L.Nodup) (h : L[i]? = some b) : b ∉ L.take i := by
  obtain ⟨hi, e⟩ := List.getElem?_eq_some_iff.mp h
  have e3 : L.take i ++ (b :: L.drop (i + 1)) = L := by rw [← e, ← List.drop_eq_getElem_cons hi, List.take_append_drop]
  have nd' : (L.take i ++ (b :: L.drop (i + 1))).Nodup := by rw [e3]; exact nd
  exact fun hm => (List.nodup_append.mp nd').2.2 b hm b List.mem_cons_self rfl
abbrev s_law_least_ones : Stmt := topS 16
theorem sc_law_least_ones : FnScope ["rows", "found", "row", "ordered", "other"] ["rows"] (defScope s_law_least_ones) := ⟨rfl, rfl, rfl, by decide +kernel, rfl, by decide +kernel, by decide +kernel⟩
-- _law_least_ones slots: rows=0 found=1 row=2(cell) ordered=3 other=4(None) globals: _law_above list len
def spLL (K : PySem.W.Frag) : Sp := fun vs H Q _ => ∃ (a : Addr) (n : Nat) (xs : List V) (bs : List Sn), vs = [.ref a] ∧ SqL K H a xs ∧ DpAll K H xs (bs.map sD) ∧ Lens n bs ∧ n ≤ 1000 ∧ bs.length ≤ 1000 ∧
  ∀ H' p ys L, Same H H' → H p = none → H' p = some (.lst ys) → DpAll K H' ys (L.map sD) → Least bs L → L.length ≤ bs.length → Q (.ref p) H'
set_option maxHeartbeats 2000000 in
theorem fd_law_least_ones {f : Addr} {fd : FuncData} (F : Fun K "_law_least_ones" "_law_least_ones" s_law_least_ones f fd) (m : mg "_law_least_ones" = some (.ref f)) (B : Bt mg) (D_law_above : Fd P w K mg base "_law_above" ["situation", "members"] 2 (spLAbove K)) (D_law_covers : Fd P w K mg base "_law_covers" ["first", "second"] 1 (spLCov K))
    (D_law_less : Fd P w K mg base "_law_less" ["first", "second"] 1 (spLLess K)) : Fd P w K mg base "_law_least_ones" ["rows"] 3 (spLL K) := by
  refine ⟨f, fd, F.ok sc_law_least_ones (fun vs H Q E h => ?_) (fun cdv A outer s H vs Q E hr h => ?_), m, F.kp, F.binds (ps := ["rows"]) fun _ _ _ _ _ _ us hl => match us, hl with | [_], _ => rfl⟩
  · obtain ⟨a, n, xs, bs, rfl, _⟩ := h
    rfl
  obtain ⟨a, n, xs, bs, rfl, ha, hd, hn, hn1, hz, q⟩ := h
  refine ⟨_, (pss_cons (ps_set (i := 1) sc_law_least_ones.nd rfl (Or.inl rfl) (pe_lst pa_nil))
 (pss_cons (ps_for PassesOwn.never rfl (piL K (pv 0)) (pg_name (i := 2) sc_law_least_ones.nd rfl (Or.inr rfl))
 (pss_one (ps_if (pt_not (pt_val (pe_fn D_law_above (hr.mono (by decide)) rfl (pa_cons (pv 2) (pa_cons (pv 1) pa_nil)))))
 (pss_one (ps_set (i := 1) sc_law_least_ones.nd rfl (Or.inl rfl) (pe_op (opCat K) (pe_lc (own := [("other", 4)]) (g := gName 4) (by rfl) sc_law_least_ones.nd (piL K (pv 1)) (blkOk_by (own := [("other", 4)]) (N := ["rows", "found", "row", "ordered", "other"]) (sc := (defScope s_law_least_ones)) (by decide +kernel)) (fun _ _ _ _ _ => (pg_name (i := 4) sc_law_least_ones.nd rfl (Or.inl rfl))) (fun _ _ _ _ _ => (pts_one (pt_not (pt_val (pe_fn D_law_covers (hr.mono (by decide)) rfl (pa_cons (pv 4) (pa_cons (pv 2) pa_nil))))))) (fun _ _ _ _ _ => (pv 4))) (pe_lst (pa_cons (pe_tup (pa_cons (pe_ix (ixT K) (pv 2) pe_int (fun _ _ => rfl)) (pa_cons (pe_callTy (cList K) (by rfl) B.list (by decide +kernel) (pa_cons (pe_ix (ixT K) (pv 2) pe_int (fun _ _ => rfl)) pa_nil)) pa_nil))) pa_nil)))))
 pss_nil)))
 (pss_cons (ps_set (i := 3) sc_law_least_ones.nd rfl (Or.inl rfl) (pe_lst pa_nil))
 (pss_cons (ps_for PassesOwn.never rfl (piL K (pv 1)) (pg_name (i := 2) sc_law_least_ones.nd rfl (Or.inr rfl))
 (pss_one (ps_expr (peBm K PySem.F.plainAttrs_list PySem.F.slot_list_insert PySem.F.type_list_insert mt_insert (pv 3) (pa_cons (pe_callB (cLen K) (by rfl) B.len PySem.boot_len (pa_cons (pe_lc (own := [("other", 4)]) (g := gName 4) (by rfl) sc_law_least_ones.nd (piL K (pv 3)) (blkOk_by (own := [("other", 4)]) (N := ["rows", "found", "row", "ordered", "other"]) (sc := (defScope s_law_least_ones)) (by decide +kernel)) (fun _ _ _ _ _ => (pg_name (i := 4) sc_law_least_ones.nd rfl (Or.inl rfl))) (fun _ _ _ _ _ => (pts_one (pt_val (pe_fn D_law_less (hr.mono (by decide)) rfl (pa_cons (pv 4) (pa_cons (pv 2) pa_nil)))))) (fun _ _ _ _ _ => (pv 4))) pa_nil)) (pa_cons (pv 2) pa_nil))))))
 (pss_one (ps_ret (pv 3))))))), ?_⟩
  have xl := dpa_lenS hd
  refine ⟨sz (by decide), fun p0 np0 => ?_⟩
  dsimp only [gName]
  refine ⟨_, rfl, a, rfl, ⟨_, (same_new np0).seq ha⟩, for_list (xs := xs) (fun i σ' H' => ∃ (p : Addr) (zs : List V) (L : List Sn) (y2 : Option V), σ' = [some (.ref a), some (.ref p), y2, none, none] ∧ Same H H' ∧ H' p = some (.lst zs) ∧ DpAll K H' zs (L.map sD) ∧ Mini (bs.take i) L ∧ L.Nodup ∧ L.length ≤ i) ⟨p0, [], [], none, rfl, same_new np0, upd_same, .nil, (by rw [List.take_zero]; exact Mini.nil), List.nodup_nil, Nat.zero_le _⟩ ?_ ?_ ?_⟩
  · rintro i σ' H' _ ⟨p, zs, L, y2, rfl, sx, _⟩
    exact sx.seq ha
  · rintro i u σ' H' hu ⟨p, zs, L, y2, rfl, sx, ep, dz, mi, nd, ll⟩
    have hi : i < bs.length := by rw [← xl]; exact (List.getElem?_eq_some_iff.mp hu).1
    have hb : bs[i]? = some bs[i] := List.getElem?_eq_getElem hi
    generalize bs[i] = b at hb
    obtain ⟨v, hv, du⟩ := dpa_atS hd hb
    obtain rfl : u = v := Option.some.inj (hu.symm.trans hv)
    have bn := hn b (List.mem_of_getElem? hb)
    have hnS : Lens n (bs.take i) := fun y hy => hn y (List.mem_of_mem_take hy)
    have hnL : Lens n L := fun y hy => hnS y (mi.sub y hy)
    obtain ⟨ta, tc, rfl, hta, htc⟩ := Same.sit sx (dp_sit du)
    have sitb : Sit K H' (.ref ta) b.1 b.2 := ⟨ta, tc, rfl, hta, htc⟩
    dsimp only [gName]
    refine ⟨_, rfl, _, rfl, .ref ta, p, b, zs, L, rfl, sitb, sq ep, dz, (fun y hy => (hnL y hy).trans bn.symm), by omega, ⟨_, rfl, ?_⟩⟩
    cases c : L.any (covS b) with
    | true =>
      refine iteF ⟨p, zs, L, _, rfl, sx, ep, dz, ?_, nd, by omega⟩
      rw [take_snoc hb]
      exact mi.stepT c
    | false =>
      refine iteT ?_
      have zl := dpa_lenS dz
      refine ⟨_, rfl, p, rfl, ⟨_, sq ep⟩, fun D nD => lc_list (xs := zs) (fun j H2 => Same H' H2 ∧ ∃ us, H2 D = some (.lst us) ∧ us.length ≤ j ∧ DpAll K H' us (((L.take j).filter fun o => !covS o b).map sD)) ⟨same_new nD, [], upd_same, Nat.le_refl _, .nil⟩ (fun _ H2 _ h => h.1.seq (sq ep)) ?_ ?_⟩
      · rintro j x H2 hx ⟨s2, us, eD, ul, dus⟩
        have hj : j < L.length := by rw [← zl]; exact (List.getElem?_eq_some_iff.mp hx).1
        have hL : L[j]? = some L[j] := List.getElem?_eq_getElem hj
        generalize L[j] = o at hL
        obtain ⟨v, hv, dv⟩ := dpa_atS dz hL
        obtain rfl : x = v := Option.some.inj (hx.symm.trans hv)
        have on := hnL o (List.mem_of_getElem? hL)
        refine ⟨rfl, _, rfl, _, rfl, x, .ref ta, o.1, b.1, o.2, b.2, rfl, dp_sit (dp_mono s2 dv), Same.sit s2 sitb, by omega, by omega, ⟨_, rfl, ?_⟩⟩
        have fs := filt_snoc (p := fun o => !covS o b) hL
        cases c2 : covB o.1 o.2 b.1 b.2 with
        | true =>
          rw [show (!covS o b) = false by rw [show covS o b = true from c2]; rfl, if_neg Bool.false_ne_true, List.append_nil] at fs
          exact iteF ⟨s2, us, eD, by omega, by rw [fs]; exact dus⟩
        | false =>
          rw [show (!covS o b) = true by rw [show covS o b = false from c2]; rfl, if_pos rfl] at fs
          refine iteT ⟨_, rfl, us, eD, szl (by omega), Same.mut s2 nD, us ++ [x], upd_same, by rw [List.length_append]; simp only [List.length_cons, List.length_nil]; omega, ?_⟩
          rw [fs, List.map_append]
          exact dpa_app dus (.cons dv .nil)
      rintro H2 ⟨s2, us, eD, ul, dus⟩
      rw [zl, List.take_length] at dus
      refine ⟨_, rfl, _, _, _, _, rfl, rfl, Same.seqT s2 hta, atI_nat (j := 0) rfl, _, rfl, _, _, _, _, rfl, rfl, Same.seqT s2 hta, atI_nat (j := 1) rfl, tc, _, rfl, .inl (s2.seq htc), fun l nl => ⟨szc 2, fun t nt => ⟨szc 1, fun r nr => ?_⟩⟩⟩
      have s23 := (same_new (o := HO.lst (b.2.map V.int)) nl).trans ((same_new (o := HO.tup [V.int b.1, V.ref l]) nt).trans (same_new (o := HO.lst [V.ref t]) nr))
      have ul' := dpa_lenS dus
      have ulL : us.length ≤ L.length := by rw [ul']; exact List.length_filter_le _ _
      refine ⟨_, _, _, _, rfl, rfl, sq (s23 _ _ eD), sq upd_same, sz (by simp only [List.length_cons, List.length_nil]; omega), fun p' np' => ?_⟩
      dsimp only [gName]
      have s24 := s23.trans (same_new (o := HO.lst (us ++ [V.ref t])) np')
      have dt : Dp K (upd (upd H2 l (.lst (b.2.map V.int))) t (.tup [.int b.1, .ref l])) (.ref t) (sD b) := sit_dp ⟨t, l, rfl, st upd_same, (same_new nt).seq (sq upd_same)⟩
      refine ⟨p', us ++ [.ref t], (L.filter fun o => !covS o b) ++ [b], _, rfl, sx.trans (s2.trans s24), upd_same, ?_, ?_, stepF_nodup nd c, ?_⟩
      · rw [List.map_append]
        exact dpa_app (dpAll_mono (s2.trans s24) dus) (.cons (dp_mono ((same_new nr).trans (same_new np')) dt) .nil)
      · rw [take_snoc hb]
        exact mi.stepF hnS bn c
      · rw [List.length_append]
        have := List.length_filter_le (fun o => !covS o b) L
        simp only [List.length_cons, List.length_nil]
        omega
  rintro σ' H1 ⟨p, zs, L, y2, rfl, sx, ep, dz, mi, nd, ll⟩
  rw [xl] at mi ll
  rw [List.take_length] at mi
  have zl := dpa_lenS dz
  have hnL : Lens n L := fun y hy => hn y (mi.sub y hy)
  refine ⟨sz (by decide), fun o no => ?_⟩
  dsimp only [gName]
  refine ⟨_, rfl, p, rfl, ⟨_, sq ((same_new no) _ _ ep)⟩, for_list (xs := zs) (fun i σ' H' => ∃ (ys : List V) (O : List Sn) (y2 : Option V), σ' = [some (.ref a), some (.ref p), y2, some (.ref o), none] ∧ Same H1 H' ∧ H' o = some (.lst ys) ∧ DpAll K H1 ys (O.map sD) ∧ Asc O ∧ (∀ x, x ∈ O ↔ x ∈ L.take i) ∧ O.length = i) ⟨[], [], y2, rfl, same_new no, upd_same, .nil, List.Pairwise.nil, (fun x => by rw [List.take_zero]), rfl⟩ ?_ ?_ ?_⟩
  · rintro i σ' H' _ ⟨ys, O, y2, rfl, s1, _⟩
    exact s1.seq (sq ep)
  · rintro i u σ' H' hu ⟨ys, O, y2, rfl, s1, eo, dy, as, mem, ol⟩
    have hi : i < L.length := by rw [← zl]; exact (List.getElem?_eq_some_iff.mp hu).1
    have hb : L[i]? = some L[i] := List.getElem?_eq_getElem hi
    generalize L[i] = b at hb
    have nodupi := nodup_at nd hb
    obtain ⟨v, hv, du⟩ := dpa_atS dz hb
    obtain rfl : u = v := Option.some.inj (hu.symm.trans hv)
    have bn := hnL b (List.mem_of_getElem? hb)
    have hnO : Lens n O := fun y hy => hnL y (List.mem_of_mem_take ((mem y).mp hy))
    have yl := dpa_lenS dy
    dsimp only [gName]
    refine ⟨_, rfl, .inl ⟨rfl, ys, sq eo⟩, ?_⟩
    refine ⟨_, rfl, o, rfl, ⟨_, sq eo⟩, fun D nD => lc_list (xs := ys) (fun j H2 => Same H' H2 ∧ ∃ us, H2 D = some (.lst us) ∧ us.length = ((O.take j).filter fun y => ltS y b).length) ⟨same_new nD, [], upd_same, rfl⟩ (fun _ H2 _ h => h.1.seq (sq eo)) ?_ ?_⟩
    · rintro j x H2 hx ⟨s2, us, eD, ul⟩
      have hj : j < O.length := by rw [← yl]; exact (List.getElem?_eq_some_iff.mp hx).1
      have hL : O[j]? = some O[j] := List.getElem?_eq_getElem hj
      generalize O[j] = c at hL
      obtain ⟨v, hv, dv⟩ := dpa_atS dy hL
      obtain rfl : x = v := Option.some.inj (hx.symm.trans hv)
      have cn := hnO c (List.mem_of_getElem? hL)
      have fl := List.length_filter_le (fun y => ltS y b) (O.take j)
      rw [List.length_take] at fl
      refine ⟨rfl, _, rfl, _, rfl, x, u, c, b, rfl, dp_sit (dp_mono (s1.trans s2) dv), dp_sit (dp_mono (s1.trans s2) du), by omega, by omega, ⟨_, rfl, ?_⟩⟩
      have fs := filt_snoc (p := fun y => ltS y b) hL
      cases c2 : ltS c b with
      | false =>
        rw [c2, if_neg Bool.false_ne_true, List.append_nil] at fs
        exact iteF ⟨s2, us, eD, by rw [fs]; exact ul⟩
      | true =>
        rw [c2, if_pos rfl] at fs
        exact iteT ⟨_, rfl, us, eD, szl (by omega), Same.mut s2 nD, us ++ [x], upd_same, by rw [fs, List.length_append, List.length_append, ul]; rfl⟩
    rintro H2 ⟨s2, us, eD, ul⟩
    rw [yl, List.take_length] at ul
    have fl := List.length_filter_le (fun y => ltS y b) O
    have eo2 := s2 _ _ eo
    refine ⟨D, us, rfl, .inl (sq eD), _, rfl, o, ys, _, u, rfl, rfl, eo2, szl (by omega), by omega, (by show (us.length : Int) < 9223372036854775808; omega), ?_⟩
    have ek : ((us.length : Int)).toNat = (O.filter fun y => ltS y b).length := by rw [← ul]; rfl
    rw [ek]
    refine ⟨_, O.take (O.filter fun y => ltS y b).length ++ [b] ++ O.drop (O.filter fun y => ltS y b).length, _, rfl, Same.mut (s1.trans s2) no, upd_same, ?_, ins_asc as hnO bn (fun h => nodupi ((mem b).mp h)), ?_, ?_⟩
    · rw [List.map_append, List.map_append, List.map_take, List.map_drop]
      exact dpa_app (dpa_app (dpa_takeS _ dy) (.cons du .nil)) (dpa_dropS _ dy)
    · intro x
      rw [ins_mem, mem x, take_snoc hb, snoc_mem]
    · rw [List.length_append, List.length_append, List.length_take, List.length_drop]
      simp only [List.length_cons, List.length_nil]
      omega
  · rintro σ' H' ⟨ys, O, y2, rfl, s1, eo, dy, as, mem, ol⟩
    rw [zl, List.take_length] at mem
    exact ⟨_, rfl, q H' o ys O (sx.trans s1) (sx.free no) eo (dpAll_mono s1 dy) (mi.least as mem) (by omega)⟩
end
theorem intsS_nc {m : Nat} : ∀ {ns : List Int}, (∀ n ∈ ns, n.natAbs < 10 ^ 7) → NcL (ns.map PyData.int) ns.length m
  | [], _ => .nil
  | n :: ns, h => by
    have := NcL.cons (NcD.int (m := m) (h n List.mem_cons_self)) (intsS_nc (m := m) fun x hx => h x (List.mem_cons_of_mem _ hx))
    exact this.mono (by rw [List.length_cons]; omega) (Nat.le_refl _)
theorem sD_nc {b : Sn} (hs : b.1.natAbs < 10 ^ 7) (h : ∀ n ∈ b.2, n.natAbs < 10 ^ 7) : NcD (sD b) (b.2.length + 3) 2 :=
  (NcL.tup (m := 1) (.cons (.int hs) (.cons (NcL.lst (intsS_nc (m := 0) h)) (.nil (c := 0))))).mono (by omega) (Nat.le_refl _)
theorem sDs_nc {S : Int} {N : Nat} {top : Int} (hS : S ≤ 1000) (ht : top ≤ 1000) : ∀ {bs : List Sn}, RowsOk S N top bs → NcL (bs.map sD) (bs.length * (N + 3)) 2
  | [], _ => .nil
  | b :: bs, h => by
    obtain ⟨h1, h2, h3, h4⟩ := h b List.mem_cons_self
    have a := sD_nc (b := b) (by omega) fun c hc => by have := h4 c hc; omega
    rw [h1] at a
    exact (NcL.cons a (sDs_nc hS ht fun x hx => h x (List.mem_cons_of_mem _ hx))).mono (by rw [List.length_cons, Nat.succ_mul]; omega) (Nat.le_refl _)
theorem rows_nc {S : Int} {N : Nat} {top : Int} (hS : S ≤ 1000) (ht : top ≤ 1000) {bs : List Sn} (h : RowsOk S N top bs) : NcD (.list (bs.map sD)) (bs.length * (N + 3) + 1) 3 := NcL.lst (sDs_nc hS ht h)
theorem RowsOk.lens {S : Int} {N : Nat} {top : Int} {bs : List Sn} (h : RowsOk S N top bs) : Lens N bs := fun b hb => (h b hb).1
theorem RowsOk.sub {S : Int} {N : Nat} {top : Int} {bs L : List Sn} (h : RowsOk S N top bs) (s : ∀ x ∈ L, x ∈ bs) : RowsOk S N top L := fun b hb => h b (s b hb)
theorem cut_takeS (xs : List V) (n : Nat) : cutV xs none (some (n : Int)) = xs.take n := by
  unfold cutV
  rw [HT.sIx_none, HT.sIx_nat xs.length xs.length n]
  show List.take (min n xs.length - 0) (List.drop 0 xs) = _
  rw [List.drop_zero, Nat.sub_zero]
  rcases Nat.le_total n xs.length with h | h
  · rw [Nat.min_eq_left h]
  · rw [Nat.min_eq_right h, List.take_of_length_le (Nat.le_refl _), List.take_of_length_le h]
theorem pick3 {x y z : Int} {j : Int} (h0 : 0 ≤ j) (h3 : j < 3) (hx : 0 ≤ x ∧ x ≤ 100) (hy : 0 ≤ y ∧ y ≤ 100) (hz : 0 ≤ z ∧ z ≤ 100) : ∃ t : Int, atI [V.int x, V.int y, V.int z] j = some (.int t) ∧ 0 ≤ t ∧ t ≤ 100 := by
  have : j = 0 ∨ j = 1 ∨ j = 2 := by omega
  rcases this with rfl | rfl | rfl
  · exact ⟨x, rfl, hx⟩
  · exact ⟨y, rfl, hy⟩
  · exact ⟨z, rfl, hz⟩
theorem zeros (n : Nat) : (List.replicate n [V.int 0]).flatten = (List.replicate n (0 : Int)).map V.int := by
  induction n with
  | zero => rfl
  | succ n ih => rw [List.replicate_succ, List.replicate_succ, List.flatten_cons, ih]; rfl
theorem RowsOk.pre {S : Int} {N : Nat} {top : Int} {bs : List Sn} (h : RowsOk S N top bs) (hl : bs.length < 64) (hN : N ≤ 4) : PreL 8 N bs :=
  .small (fun b hb c hc => ((h b hb).2.2.2 c hc).1) hl (by omega) (by omega)
section
variable {P : Program} {w : World} {K : PySem.W.Frag} {mg : Str → Option Value} {base : Heap}
abbrev s_law : Stmt := topS 18
theorem sc_law : FnScope ["script", "first", "states", "places", "rows", "row", "kept", "due", "found", "situation", "above", "told", "again"] ["script"] (defScope s_law) := ⟨rfl, rfl, rfl, by decide +kernel, rfl, by decide +kernel, by decide +kernel⟩
-- law slots: script=0 first=1 states=2 places=3 rows=4 row=5 kept=6 due=7 found=8 situation=9 above=10 told=11 again=12 globals: _law_digits _law_cell _law_some _law_least_ones repr least_ones _law_is_rows _law_above is_above isinstance bool
def spLaw (K : PySem.W.Frag) : Sp := fun vs H Q _ => ∃ (a : Addr) (ns : List Int), vs = [.ref a] ∧ SqL K H a (ns.map V.int) ∧ ns.length ≤ 63 ∧ ∀ H', Q (.bl true) H'
set_option maxHeartbeats 4000000 in
theorem fd_law {f : Addr} {fd : FuncData} (F : Fun K "law" "law" s_law f fd) (m : mg "law" = some (.ref f)) (bind : ∀ (s : Shared) (v : Value), BindsTo s fd ⟨[v], []⟩ [("script", v)]) (B : Bt mg)
    (D_law_cell : Fd P w K mg base "_law_cell" ["script", "k"] 1 (spCellP K)) (D_law_digits : Fd P w K mg base "_law_digits" ["cell", "base", "most"] 1 (spDigits K)) (D_law_some : Fd P w K mg base "_law_some" ["cell", "states", "places", "many", "most"] 2 (spSome K))
    (D_law_above : Fd P w K mg base "_law_above" ["situation", "members"] 2 (spLAbove K)) (D_law_least_ones : Fd P w K mg base "_law_least_ones" ["rows"] 3 (spLL K)) (D_law_is_rows : Fd P w K mg base "_law_is_rows" ["rows", "states", "places"] 1 (spIsRows K))
    (D_is_above : Fd P w K mg base "is_above" ["situation", "basis"] 2 (spAbove K)) (D_least_ones : Fd P w K mg base "least_ones" ["situations"] 12 (spLeast K 8)) :
    TopOk P w K mg base f (spLaw K) := by
  refine top_ok (k := 13) F sc_law (by refine ⟨rfl, ?_, ?_⟩ <;> decide +kernel) bind fun cdv s H a Q hr h => ?_
  obtain ⟨a1, ns, ea, hs, hl, q⟩ := h
  cases ea
  refine ⟨_, (pss_cons (ps_set (i := 1) sc_law.nd rfl (Or.inl rfl) (pe_fn D_law_digits (hr.mono (by decide)) rfl (pa_cons (pe_fn D_law_cell (hr.mono (by decide)) rfl (pa_cons (pv 0) (pa_cons pe_int pa_nil))) (pa_cons pe_int (pa_cons pe_int pa_nil)))))
 (pss_cons (ps_set (i := 2) sc_law.nd rfl (Or.inl rfl) (pe_op op_add pe_int (pe_op op_mod (pe_ix (ixL K) (pv 1) pe_int (fun _ _ => rfl)) pe_int)))
 (pss_cons (ps_set (i := 3) sc_law.nd rfl (Or.inl rfl) (pe_op op_add pe_int (pe_op op_mod (pe_ix (ixL K) (pv 1) pe_int (fun _ _ => rfl)) pe_int)))
 (pss_cons (ps_set (i := 4) sc_law.nd rfl (Or.inl rfl) (pe_fn D_law_some (hr.mono (by decide)) rfl (pa_cons (pe_fn D_law_cell (hr.mono (by decide)) rfl (pa_cons (pv 0) (pa_cons pe_int pa_nil))) (pa_cons (pv 2) (pa_cons (pv 3) (pa_cons (pe_op op_mod (pe_ix (ixL K) (pv 1) pe_int (fun _ _ => rfl)) pe_int) (pa_cons (pe_ix (ixL K) (pe_lst (pa_cons pe_int (pa_cons pe_int (pa_cons pe_int pa_nil)))) (pe_op op_mod (pe_op op_fdiv (pe_ix (ixL K) (pv 1) pe_int (fun _ _ => rfl)) pe_int) pe_int) (fun _ _ => rfl)) pa_nil)))))))
 (C8.pss_cut (ps_if (pt_cmpR op_eq (pe_op op_mod (pe_ix (ixL K) (pv 1) pe_int (fun _ _ => rfl)) pe_int) pe_int (nomark _))
 (pss_one (ps_set (i := 4) sc_law.nd rfl (Or.inl rfl) (pe_op (opCat K) (pv 4) (pe_lc (own := [("row", 5)]) (g := gName 5) (by rfl) sc_law.nd (piL K (pe_slice (slL K) (pv 4) po_none (po_some pe_int))) (blkOk_by (own := [("row", 5)]) (N := ["script", "first", "states", "places", "rows", "row", "kept", "due", "found", "situation", "above", "told", "again"]) (sc := (defScope s_law)) (by decide +kernel)) (fun _ _ _ _ _ => (pg_name (i := 5) sc_law.nd rfl (Or.inl rfl))) (fun _ _ _ _ _ => pts_nil) (fun _ _ _ _ _ => (pe_tup (pa_cons (pe_ix (ixT K) (pv 5) pe_int (fun _ _ => rfl)) (pa_cons (pe_callTy (cList K) (by rfl) B.list (by decide +kernel) (pa_cons (pe_ix (ixT K) (pv 5) pe_int (fun _ _ => rfl)) pa_nil)) pa_nil))))))))
 pss_nil)
 (C8.pss_cut (ps_if (pt_cmpR op_eq (pe_op op_mod (pe_op op_fdiv (pe_ix (ixL K) (pv 1) pe_int (fun _ _ => rfl)) pe_int) pe_int) pe_int (nomark _))
 (pss_one (ps_set (i := 4) sc_law.nd rfl (Or.inl rfl) (pe_fn D_law_least_ones (hr.mono (by decide)) rfl (pa_cons (pv 4) pa_nil))))
 pss_nil)
 (pss_cons (ps_set (i := 6) sc_law.nd rfl (Or.inl rfl) (pe_callB (cRepr K rfl hr.units) (by rfl) B.repr (by decide +kernel) (pa_cons (pv 4) pa_nil)))
 (pss_cons (ps_set (i := 7) sc_law.nd rfl (Or.inl rfl) (pe_fn D_law_least_ones (hr.mono (by decide)) rfl (pa_cons (pv 4) pa_nil)))
 (pss_cons (ps_set (i := 8) sc_law.nd rfl (Or.inl rfl) (pe_fn D_least_ones (hr.mono (by decide)) rfl (pa_cons (pv 4) pa_nil)))
 (pss_cons (ps_if (PW.pt (pw_or (pt_not (pt_val (pe_fn D_law_is_rows (hr.mono (by decide)) rfl (pa_cons (pv 8) (pa_cons (pv 2) (pa_cons (pv 3) pa_nil)))))) (pw_or (pt_cmpR (opNeD K hr.units) (pv 8) (pv 7) (nomark _)) (pw_or (pt_cmpR op_ne (pe_callB (cRepr K rfl hr.units) (by rfl) B.repr (by decide +kernel) (pa_cons (pv 4) pa_nil)) (pv 6) (nomark _)) (pw_or1 (pt_cmpR (opNeD K hr.units) (pe_fn D_least_ones (hr.mono (by decide)) rfl (pa_cons (pv 8) pa_nil)) (pv 7) (nomark _)))))))
 (pss_one (ps_ret pe_bl))
 pss_nil)
 (pss_cons (ps_for PassesOwn.never rfl (piL K (pe_op (opCat K) (pe_fn D_law_some (hr.mono (by decide)) rfl (pa_cons (pe_fn D_law_cell (hr.mono (by decide)) rfl (pa_cons (pv 0) (pa_cons pe_int pa_nil))) (pa_cons (pv 2) (pa_cons (pv 3) (pa_cons pe_int (pa_cons (pe_ix (ixL K) (pe_lst (pa_cons pe_int (pa_cons pe_int (pa_cons pe_int pa_nil)))) (pe_op op_mod (pe_op op_fdiv (pe_ix (ixL K) (pv 1) pe_int (fun _ _ => rfl)) pe_int) pe_int) (fun _ _ => rfl)) pa_nil)))))) (pe_slice (slL K) (pv 4) po_none (po_some pe_int)))) (pg_name (i := 9) sc_law.nd rfl (Or.inl rfl))
 (pss_cons (ps_set (i := 10) sc_law.nd rfl (Or.inl rfl) (pe_fn D_law_above (hr.mono (by decide)) rfl (pa_cons (pv 9) (pa_cons (pv 4) pa_nil))))
 (pss_cons (ps_set (i := 11) sc_law.nd rfl (Or.inl rfl) (pe_fn D_is_above (hr.mono (by decide)) rfl (pa_cons (pv 9) (pa_cons (pv 4) pa_nil))))
 (pss_one (ps_if (PW.pt (pw_or (pt_not (pt_val (pe_callB (cIsi K) (by rfl) B.isinstance (by decide +kernel) (pa_cons (pv 11) (pa_cons (pe_bltn (v := .ty "bool") (by rfl) B.bool (by decide +kernel) rfl) pa_nil))))) (pw_or (pt_cmpR op_ne (pv 11) (pv 10) (nomark _)) (pw_or1 (pt_cmpR op_ne (pe_fn D_is_above (hr.mono (by decide)) rfl (pa_cons (pv 9) (pa_cons (pv 8) pa_nil))) (pv 10) (nomark _))))))
 (pss_one (ps_ret pe_bl))
 pss_nil)))))
 (pss_cons (ps_set (i := 12) sc_law.nd rfl (Or.inl rfl) (pe_fn D_least_ones (hr.mono (by decide)) rfl (pa_cons (pv 4) pa_nil)))
 (pss_cons (ps_for PassesOwn.never rfl (piL K (pv 8)) (pg_name (i := 5) sc_law.nd rfl (Or.inl rfl))
 (pss_one (ps_expr (peBm K PySem.F.plainAttrs_list PySem.F.slot_list_append PySem.F.type_list_append mt_append (pe_ix (ixT K) (pv 5) pe_int (fun _ _ => rfl)) (pa_cons pe_int pa_nil)))))
 (pss_cons (ps_expr (peBm K PySem.F.plainAttrs_list PySem.F.slot_list_append PySem.F.type_list_append mt_append (pv 8) (pa_cons pe_non pa_nil)))
 (pss_one (ps_ret (pe_and (pe_cmpR (opEqD K hr.units) (pv 12) (pv 7) (nomark _)) (pe_and (pe_cmpR op_eq (pe_callB (cRepr K rfl hr.units) (by rfl) B.repr (by decide +kernel) (pa_cons (pv 4) pa_nil)) (pv 6) (nomark _)) (pe_and (pe_cmpR (opEqD K hr.units) (pe_fn D_least_ones (hr.mono (by decide)) rfl (pa_cons (pv 4) pa_nil)) (pv 7) (nomark _)) (pe_and (pe_cmpR (opEqD K hr.units) (pe_fn D_least_ones (hr.mono (by decide)) rfl (pa_cons (pe_lst pa_nil) pa_nil)) (pe_lst pa_nil) (nomark _)) (pe_one (pe_not (pe_fn D_is_above (hr.mono (by decide)) rfl (pa_cons (pe_tup (pa_cons pe_int (pa_cons (pe_op op_rep (pe_lst (pa_cons pe_int pa_nil)) (pv 3)) pa_nil))) (pa_cons (pe_lst pa_nil) pa_nil))))))))))))))))))))))))), ?_⟩
  -- first
  refine ⟨_, rfl, a, ns, 0, rfl, hs, fun c0 hc0 => ⟨c0, 2520, 4, rfl, hc0, by decide, by decide, by decide, fun H1 pf fs s1 nf ef lf hf => ?_⟩⟩
  dsimp only [gName]
  have f0 : ∀ {j : Nat}, j < 4 → 0 ≤ fs.getD j 0 := fun {j} h => (hf _ (gd_mem (by omega))).1
  refine ⟨_, rfl, _, _, _, _, rfl, rfl, sq ef, at_gd (j := 0) rfl (by omega), _, _, rfl, rfl, (by show (0 : Int) < 3; decide), _, _, rfl, rfl, ?_⟩
  dsimp only [gName]
  refine ⟨_, rfl, _, _, _, _, rfl, rfl, sq ef, at_gd (j := 1) rfl (by omega), _, _, rfl, rfl, (by show (0 : Int) < 4; decide), _, _, rfl, rfl, ?_⟩
  dsimp only [gName]
  have r0 := mod_ps (fs.getD 0 0) (show (0 : Int) < 3 by decide)
  have r1 := mod_ps (fs.getD 1 0) (show (0 : Int) < 4 by decide)
  have r2 := mod_ps (fs.getD 2 0) (show (0 : Int) < 15 by decide)
  have r3 := mod_ps (fs.getD 2 0 / 15) (show (0 : Int) < 3 by decide)
  obtain ⟨S, eS, S1, S3⟩ : ∃ S : Int, 1 + fs.getD 0 0 % 3 = S ∧ 1 ≤ S ∧ S ≤ 3 := ⟨_, rfl, by omega, by omega⟩
  obtain ⟨N, eN, N1, N4⟩ : ∃ N : Nat, 1 + fs.getD 1 0 % 4 = (N : Int) ∧ 1 ≤ N ∧ N ≤ 4 := ⟨(1 + fs.getD 1 0 % 4).toNat, by omega, by omega, by omega⟩
  obtain ⟨mn, em, m14⟩ : ∃ m : Nat, fs.getD 2 0 % 15 = (m : Int) ∧ m ≤ 14 := ⟨(fs.getD 2 0 % 15).toNat, by omega, by omega⟩
  rw [eS, eN]
  -- rows
  refine ⟨_, rfl, a, ns, 1, rfl, s1.seq hs, fun c1 hc1 => ⟨_, rfl, _, rfl, _, rfl, _, _, _, _, rfl, rfl, sq ef, at_gd (j := 2) rfl (by omega), _, _, rfl, rfl, (by show (0 : Int) < 15; decide), szc 3, fun q1 n1 => ?_⟩⟩
  obtain ⟨top, et, t0, t100⟩ := pick3 (x := 3) (y := 3) (z := 12) r3.1 r3.2 (by decide) (by decide) (by decide)
  refine ⟨_, rfl, _, _, _, _, rfl, rfl, sq ((same_new n1) _ _ ef), at_gd (j := 2) rfl (by omega), _, _, rfl, rfl, ⟨by decide, by decide⟩, _, _, rfl, rfl, (by show (0 : Int) < 3; decide), _, _, _, _, rfl, rfl, sq upd_same, et, ?_⟩
  refine ⟨c1, S, N, mn, top, congrArg (fun z => [V.int c1, V.int S, V.int (N : Int), V.int z, V.int top]) em, hc1, by omega, by omega, by omega, t0, fun H2 pr0 xs0 bs0 s2 _ er0 dr0 lb0 ok0 => ?_⟩
  dsimp only [gName]
  have s12 := (same_new n1).trans s2
  have ef2 := s12 _ _ ef
  have hs2 := (s1.trans s12).seq hs
  clear et s2 n1 s12 s1 ef nf
  refine ⟨fun σ' H' => ∃ (pr : Addr) (xs : List V) (bs : List Sn), σ' = [some (.ref a), some (.ref pf), some (.int S), some (.int (N : Int)), some (.ref pr), none, none, none, none, none, none, none, none] ∧ Same H2 H' ∧ H' pr = some (.lst xs) ∧ DpAll K H' xs (bs.map sD) ∧ bs.length ≤ 16 ∧ RowsOk S N top bs, ?_, ?_⟩
  · refine ⟨_, rfl, _, _, _, _, rfl, rfl, sq ef2, at_gd (j := 3) rfl (by omega), _, _, rfl, rfl, (by show (0 : Int) < 3; decide), rfl, _, rfl, ite2 (fun e => ?_) (fun e => ?_)⟩
    · have xl := dpa_lenS dr0
      refine ⟨_, rfl, _, rfl, _, rfl, pr0, _, rfl, sq er0, fun q1 n1 => ⟨q1, rfl, ⟨xs0.take 2, sq (by rw [upd_same]; exact congrArg (fun z => some (HO.lst z)) (cut_takeS xs0 2))⟩, fun D nD => ?_⟩⟩
      have e1 : (upd H2 q1 (.lst (cutV xs0 none (some 2)))) q1 = some (.lst (xs0.take 2)) := by rw [upd_same]; exact congrArg (fun z => some (HO.lst z)) (cut_takeS xs0 2)
      have s1 : Same H2 (upd H2 q1 (.lst (cutV xs0 none (some 2)))) := same_new n1
      generalize upd H2 q1 (.lst (cutV xs0 none (some 2))) = H3 at e1 s1 nD ⊢
      have dt : DpAll K H3 (xs0.take 2) ((bs0.take 2).map sD) := by rw [List.map_take]; exact dpa_takeS 2 (dpAll_mono s1 dr0)
      have tl := dpa_lenS dt
      refine lc_list (xs := xs0.take 2) (fun j H' => Same H3 H' ∧ ∃ us, H' D = some (.lst us) ∧ FreshL (Gn D D H3 H') us ((bs0.take 2).take j)) ⟨same_new nD, [], upd_same, by rw [List.take_zero]; exact .nil⟩ (fun _ H' _ h => h.1.seq (sq e1)) ?_ ?_
      · rintro j x H' hx ⟨sx, us, eD, fl⟩
        have hj : j < (bs0.take 2).length := by rw [← tl]; exact (List.getElem?_eq_some_iff.mp hx).1
        have hL : (bs0.take 2)[j]? = some (bs0.take 2)[j] := List.getElem?_eq_getElem hj
        generalize (bs0.take 2)[j] = b at hL
        obtain ⟨v, hv, dv⟩ := dpa_atS dt hL
        obtain rfl : x = v := Option.some.inj (hx.symm.trans hv)
        obtain ⟨ta, tc, rfl, hta, htc⟩ := Same.sit sx (dp_sit dv)
        have ul := fl.len
        rw [List.length_take] at ul
        have ul2 : us.length ≤ 2 := by rw [List.length_take] at hj; omega
        refine ⟨rfl, _, rfl, _, _, _, _, rfl, rfl, hta, atI_nat (j := 0) rfl, _, rfl, _, _, _, _, rfl, rfl, hta, atI_nat (j := 1) rfl, tc, _, rfl, .inl htc, fun l nl => ⟨szc 2, fun t nt => ?_⟩⟩
        have tD : t ≠ D := fun e => by rw [e, (same_new nl) _ _ eD] at nt; cases nt
        have lD : l ≠ D := fun e => by rw [e, eD] at nl; cases nl
        have tl' : t ≠ l := fun e => by rw [e, upd_same] at nt; cases nt
        have s4 := (same_new (o := HO.lst (b.2.map V.int)) nl).trans (same_new (o := HO.tup [V.int b.1, V.ref l]) nt)
        refine ⟨us, s4 _ _ eD, szl (by omega), Same.mut (sx.trans s4) nD, us ++ [.ref t], upd_same, ?_⟩
        rw [take_snoc hL]
        exact FreshL.snoc ⟨t, l, rfl, gn_iff.mpr ⟨tD, tD, (sx.trans (same_new nl)).free nt, by rw [upd_ne tD]; exact upd_same⟩, gn_iff.mpr ⟨lD, lD, sx.free nl, by rw [upd_ne lD, upd_ne (Ne.symm tl')]; exact upd_same⟩⟩ (fl.mono ((gn_same s4).trans (gn_mut (.inl rfl))))
      rintro H4 ⟨sx, us, eD, fl⟩
      rw [tl, List.take_length] at fl
      have ul := fl.len
      rw [List.length_take] at ul
      refine ⟨_, _, _, _, rfl, rfl, sq (sx _ _ (s1 _ _ er0)), sq eD, sz (by omega), fun p' np' => ?_⟩
      dsimp only [gName]
      refine ⟨p', xs0 ++ us, bs0 ++ bs0.take 2, rfl, s1.trans (sx.trans (same_new np')), upd_same, ?_, ?_, ?_⟩
      · rw [List.map_append]
        exact dpa_app (dpAll_mono (s1.trans (sx.trans (same_new np'))) dr0) (dpAll_mono (gn_out.trans (same_new np')) fl.dpa)
      · rw [List.length_append, List.length_take]
        omega
      · intro b hb
        rcases List.mem_append.mp hb with hb | hb
        · exact ok0 b hb
        · exact ok0 b (List.mem_of_mem_take hb)
    · exact ⟨pr0, xs0, bs0, rfl, Same.refl _, er0, dr0, by omega, ok0⟩
  clear er0 dr0 lb0 ok0
  rintro σ' H3 ⟨pr1, xs1, bs1, rfl, s23, er1, dr1, lb1, ok1⟩
  refine ⟨fun σ' H' => ∃ (pr : Addr) (xs : List V) (bs : List Sn), σ' = [some (.ref a), some (.ref pf), some (.int S), some (.int (N : Int)), some (.ref pr), none, none, none, none, none, none, none, none] ∧ Same H2 H' ∧ H' pr = some (.lst xs) ∧ DpAll K H' xs (bs.map sD) ∧ bs.length ≤ 16 ∧ RowsOk S N top bs, ?_, ?_⟩
  · refine ⟨_, rfl, _, _, _, _, rfl, rfl, sq (s23 _ _ ef2), at_gd (j := 3) rfl (by omega), _, _, rfl, rfl, ⟨by decide, by decide⟩, _, _, rfl, rfl, (by show (0 : Int) < 4; decide), rfl, _, rfl, ite2 (fun e => ?_) (fun e => ?_)⟩
    · refine ⟨_, rfl, pr1, N, xs1, bs1, rfl, sq er1, dr1, ok1.lens, by omega, by omega, fun H' p ys L s' np ep dl le ll => ?_⟩
      exact ⟨p, ys, L, rfl, s23.trans s', ep, dl, by omega, ok1.sub le.sub⟩
    · exact ⟨pr1, xs1, bs1, rfl, s23, er1, dr1, lb1, ok1⟩
  clear er1 dr1 lb1 ok1 s23 H3
  rintro σ' H3 ⟨pr, xs, bs, rfl, s23, er, dr, lb, ok⟩
  have hs3 := s23.seq hs2
  have ef3 := s23 _ _ ef2
  clear s23 hs2 ef2
  have xl := dpa_lenS dr
  have nc := rows_nc (by omega) (by omega) ok
  have cl : bs.length * (N + 3) ≤ 16 * 7 := Nat.mul_le_mul lb (by omega)
  have shw : Shw (.list (bs.map sD)) := nc.shw (by omega) (by decide)
  -- kept
  refine ⟨_, rfl, pr, _, rfl, .lst (sq er) dr, shw.sh, shw.nd, shw.de, shw.ln, ?_⟩
  dsimp only [gName]
  -- due
  refine ⟨_, rfl, pr, N, xs, bs, rfl, sq er, dr, ok.lens, by omega, by omega, fun H5 pd ys L s5 nd ed dd le ll => ?_⟩
  dsimp only [gName]
  have okL := ok.sub le.sub
  have ncL := rows_nc (by omega) (by omega) okL
  have clL : L.length * (N + 3) ≤ 16 * 7 := Nat.mul_le_mul (by omega) (by omega)
  have shL := ncL.shaped (by decide)
  have er5 := s5 _ _ er
  have dr5 := dpAll_mono s5 dr
  -- found
  refine ⟨_, rfl, pr, N, xs, bs, rfl, sq er5, dr5, ok.lens, ok.pre (by omega) N4, fun H6 pF fs6 L6 s6 nF eF fF le6 ll6 => ?_⟩
  dsimp only [gName]
  obtain rfl := Least.uniq ok.lens le le6
  have er6 := s6 _ _ er5
  have dr6 := dpAll_mono s6 dr5
  have ed6 := s6 _ _ ed
  have dd6 := dpAll_mono s6 dd
  have dF6 := dpAll_mono (K := K) gn_out fF.dpa
  refine ⟨_, rfl, _, rfl, _, rfl, pF, S, N, fs6, L, rfl, eF, fF.mono gn_out, (fun b hb => ⟨(okL b hb).1, (okL b hb).2.1, (okL b hb).2.2.1, fun c hc => ((okL b hb).2.2.2 c hc).1⟩), _, rfl, iteFx rfl ?_⟩
  refine ⟨_, rfl, _, rfl, _, _, .lst (sq eF) dF6, .lst (sq ed6) dd6, shL, shL, _, rfl, iteFx (nvM ncL.eqv) ?_⟩
  refine ⟨_, rfl, pr, _, rfl, .lst (sq er6) dr6, shw.sh, shw.nd, shw.de, shw.ln, _, rfl, rfl, _, rfl, iteFx (neM _) ?_⟩
  refine ⟨_, rfl, pF, N, fs6, L, rfl, sq eF, dF6, okL.lens, okL.pre (by omega) N4, fun H7 p7 g7 L7 s7 n7 e7 f7 le7 ll7 => ?_⟩
  obtain rfl := Least.uniq okL.lens le.self le7
  refine ⟨_, rfl, _, _, .lst (sq e7) (dpAll_mono gn_out f7.dpa), .lst (sq (s7 _ _ ed6)) (dpAll_mono s7 dd6), shL, shL, _, rfl, iteFx (nvM ncL.eqv) ?_⟩
  have s67 := s7
  have hs7 := s7.seq (s6.seq (s5.seq hs3))
  have ef7 := s7 _ _ (s6 _ _ (s5 _ _ ef3))
  clear e7 f7 le7 ll7 n7
  -- the situations
  obtain ⟨top2, et2, t20, t2100⟩ := pick3 (x := 4) (y := 4) (z := 13) r3.1 r3.2 (by decide) (by decide) (by decide)
  refine ⟨_, rfl, a, ns, 2, rfl, hs7, fun c2 hc2 => ⟨_, rfl, _, rfl, szc 3, fun q2 n2 => ?_⟩⟩
  refine ⟨_, rfl, _, _, _, _, rfl, rfl, sq ((same_new n2) _ _ ef7), at_gd (j := 2) rfl (by omega), _, _, rfl, rfl, ⟨by decide, by decide⟩, _, _, rfl, rfl, (by show (0 : Int) < 3; decide), _, _, _, _, rfl, rfl, sq upd_same, et2, ?_⟩
  refine ⟨c2, S, N, 8, top2, rfl, hc2, by omega, by omega, by decide, t20, fun H8 p8 xs8 bs8 s8 _ e8 d8 l8 ok8 => ?_⟩
  have s68 := s67.trans ((same_new n2).trans s8)
  clear n2 s8 et2
  refine ⟨_, rfl, _, rfl, pr, _, rfl, sq (s68 _ _ er6), fun q3 n3 => ?_⟩
  have e3 : (upd H8 q3 (.lst (cutV xs none (some 3)))) q3 = some (.lst (xs.take 3)) := by rw [upd_same]; exact congrArg (fun z => some (HO.lst z)) (cut_takeS xs 3)
  have s89 : Same H8 (upd H8 q3 (.lst (cutV xs none (some 3)))) := same_new n3
  generalize upd H8 q3 (.lst (cutV xs none (some 3))) = H9 at e3 s89 ⊢
  have xl8 := dpa_lenS d8
  refine ⟨_, _, _, _, rfl, rfl, sq (s89 _ _ e8), sq e3, sz (by rw [List.length_take]; omega), fun p9 n9 => ?_⟩
  have sA : Same H6 (upd H9 p9 (.lst (xs8 ++ xs.take 3))) := s68.trans (s89.trans (same_new n9))
  have eA : (upd H9 p9 (.lst (xs8 ++ xs.take 3))) p9 = some (.lst (xs8 ++ xs.take 3)) := upd_same
  have dA : DpAll K (upd H9 p9 (.lst (xs8 ++ xs.take 3))) (xs8 ++ xs.take 3) ((bs8 ++ bs.take 3).map sD) := by
    rw [List.map_append, List.map_take]
    exact dpa_app (dpAll_mono (s89.trans (same_new n9)) d8) (dpa_takeS 3 (dpAll_mono sA dr6))
  generalize upd H9 p9 (.lst (xs8 ++ xs.take 3)) = HA at sA eA dA ⊢
  have lA : Lens N (bs8 ++ bs.take 3) := fun b hb => by
    rcases List.mem_append.mp hb with hb | hb
    · exact (ok8 b hb).1
    · exact (ok b (List.mem_of_mem_take hb)).1
  generalize bs8 ++ bs.take 3 = bsA at dA lA
  generalize xs8 ++ xs.take 3 = xsA at eA dA
  have xlA := dpa_lenS dA
  clear s89 n9 n3 e3 s68 e8 d8 l8 ok8 xl8
  refine ⟨p9, rfl, ⟨xsA, sq eA⟩, for_list (xs := xsA) (fun i σ' H' => ∃ (y9 y10 y11 : Option V), σ' = [some (.ref a), some (.ref pf), some (.int S), some (.int (N : Int)), some (.ref pr), none, some (.str (PyData.list (bs.map sD)).shown), some (.ref pd), some (.ref pF), y9, y10, y11, none] ∧ Same HA H') ⟨_, _, _, rfl, Same.refl _⟩ ?_ ?_ ?_⟩
  · rintro i σ' H' _ ⟨y9, y10, y11, rfl, sx⟩
    exact sx.seq (sq eA)
  · rintro i x σ' H' hx ⟨y9, y10, y11, rfl, sx⟩
    have hi : i < bsA.length := by rw [← xlA]; exact (List.getElem?_eq_some_iff.mp hx).1
    have hL : bsA[i]? = some bsA[i] := List.getElem?_eq_getElem hi
    generalize bsA[i] = b at hL
    obtain ⟨v, hv, dv⟩ := dpa_atS dA hL
    obtain rfl : x = v := Option.some.inj (hx.symm.trans hv)
    have bn := lA b (List.mem_of_getElem? hL)
    have sit := Same.sit sx (dp_sit dv)
    have s6x := sA.trans sx
    dsimp only [gName]
    refine ⟨_, rfl, _, rfl, x, pr, b, xs, bs, rfl, sit, sq (s6x _ _ er6), dpAll_mono s6x dr6, (fun y hy => (ok.lens y hy).trans bn.symm), by omega, ?_⟩
    dsimp only [gName]
    refine ⟨_, rfl, _, rfl, x, pr, b, xs, bs, rfl, sit, sq (s6x _ _ er6), dpAll_mono s6x dr6, (fun y hy => (ok.lens y hy).trans bn.symm), fun H'' s' => ?_⟩
    dsimp only [gName]
    refine orA (ans_not (ansIsi (T := "bool") (b := true) (fun Q q => ⟨_, rfl, q⟩) (.base (.bl _)) (by decide +kernel))) ?_
    refine ⟨_, rfl, _, rfl, rfl, _, rfl, iteFx (nbM _) ?_⟩
    have s6y := s6x.trans s'
    refine ⟨_, rfl, _, rfl, x, pF, b, fs6, L, rfl, Same.sit s' sit, sq (s6y _ _ eF), dpAll_mono s6y dF6, (fun y hy => (okL.lens y hy).trans bn.symm), fun H3' s'' => ?_⟩
    refine ⟨_, rfl, rfl, _, rfl, iteFx (by rw [le.toMini.any ok.lens bn]; exact nbM _) ?_⟩
    exact ⟨_, _, _, rfl, sx.trans (s'.trans s'')⟩
  rintro σ' HB ⟨y9, y10, y11, rfl, sx⟩
  have s6B := sA.trans sx
  clear eA dA lA xlA sA sx
  -- again
  refine ⟨_, rfl, pr, N, xs, bs, rfl, sq (s6B _ _ er6), dpAll_mono s6B dr6, ok.lens, ok.pre (by omega) N4, fun HC pA gs LA sC nA eA fA leA llA => ?_⟩
  obtain rfl := Least.uniq ok.lens le leA
  dsimp only [gName]
  have s6C := s6B.trans sC
  have eFC := s6C _ _ eF
  refine ⟨_, rfl, pF, rfl, ⟨fs6, sq eFC⟩, for_list (xs := fs6) (fun i σ' H' => ∃ (y5 : Option V), σ' = [some (.ref a), some (.ref pf), some (.int S), some (.int (N : Int)), some (.ref pr), y5, some (.str (PyData.list (bs.map sD)).shown), some (.ref pd), some (.ref pF), y9, y10, y11, some (.ref pA)] ∧ Same H5 H' ∧ Same (Gn pA pA HB HC) H' ∧ H' pA = some (.lst gs) ∧ H' pF = some (.lst fs6) ∧ (∀ x o, Gn pF pF H5 H6 x = some (.tup o) → H' x = some (.tup o)) ∧ ∀ x l, Gn pF pF H5 H6 x = some (.lst l) → ∃ zs, H' x = some (.lst zs) ∧ zs.length ≤ l.length + i) ⟨_, rfl, s6.trans s6C, gn_out, eA, eFC, (fun x o h => s6C _ _ (gn_out _ _ h)), fun x l h => ⟨l, s6C _ _ (gn_out _ _ h), Nat.le_refl _⟩⟩ ?_ ?_ ?_⟩
  · rintro i σ' H' _ ⟨y5, rfl, _, _, _, eF', _⟩
    exact sq eF'
  · rintro i x σ' H' hx ⟨y5, rfl, sa, sb, epA, eF', k1, k2⟩
    obtain ⟨b, hb, t, c, rfl, ht, hc⟩ := fF.at' hx
    have bn := okL b (List.mem_of_getElem? hb)
    obtain ⟨zs, ez, zl⟩ := k2 _ _ hc
    rw [List.length_map, bn.1] at zl
    have hi : i < L.length := (List.getElem?_eq_some_iff.mp hb).1
    obtain ⟨c1', c2', c3', c4'⟩ := gn_iff.mp hc
    have cB := s6B _ _ c4'
    dsimp only [gName]
    refine ⟨_, rfl, _, _, _, _, rfl, rfl, st (k1 _ _ ht), atI_nat (j := 1) rfl, .inl ⟨rfl, zs, sq ez⟩, c, zs, _, rfl, rfl, ez, szl (by omega), ?_⟩
    have cA : c ≠ pA := fun e => by rw [e, nA] at cB; cases cB
    refine ⟨_, rfl, Same.mut sa c3', fun z o h => ?_, (by rw [upd_ne (Ne.symm cA)]; exact epA), (by rw [upd_ne (Ne.symm c1')]; exact eF'), fun z o h => ?_, fun z l h => ?_⟩
    · have hz : z ≠ c := fun e => by
        obtain ⟨_, _, h3, _⟩ := gn_iff.mp h
        rw [e, cB] at h3
        cases h3
      rw [upd_ne hz]
      exact sb _ _ h
    · have hz : z ≠ c := fun e => by rw [e, hc] at h; cases h
      rw [upd_ne hz]
      exact k1 _ _ h
    · by_cases hz : z = c
      · subst hz
        rw [hc] at h
        cases h
        refine ⟨_, upd_same, ?_⟩
        rw [List.length_append, List.length_map, bn.1]
        simp only [List.length_cons, List.length_nil]
        omega
      · obtain ⟨zs', h1, h2⟩ := k2 _ _ h
        exact ⟨zs', by rw [upd_ne hz]; exact h1, by omega⟩
  rintro σ' HD ⟨y5, rfl, sa, sb, epA, eF', -, -⟩
  have gl := fF.len
  refine ⟨_, rfl, .inl ⟨rfl, fs6, sq eF'⟩, pF, fs6, _, rfl, rfl, eF', szl (by omega), ?_⟩
  have eFB := s6B _ _ eF
  have pAF : pA ≠ pF := fun e => by rw [← e, nA] at eFB; cases eFB
  have sa2 : Same H5 (upd HD pF (.lst (fs6 ++ [.non]))) := Same.mut sa nF
  have sb2 : Same (Gn pA pA HB HC) (upd HD pF (.lst (fs6 ++ [.non]))) := fun z o h => by
    have hz : z ≠ pF := fun e => by
      obtain ⟨_, _, h3, _⟩ := gn_iff.mp h
      rw [e, eFB] at h3
      cases h3
    rw [upd_ne hz]
    exact sb _ _ h
  have epA2 : (upd HD pF (.lst (fs6 ++ [.non]))) pA = some (.lst gs) := by rw [upd_ne pAF]; exact epA
  generalize upd HD pF (.lst (fs6 ++ [.non])) = HE at sa2 sb2 epA2 ⊢
  -- the end
  refine ⟨_, rfl, _, rfl, _, _, .lst (sq epA2) (dpAll_mono sb2 fA.dpa), .lst (sq (sa2 _ _ ed)) (dpAll_mono sa2 dd), shL, shL, _, rfl, iteTx ncL.eqv ?_⟩
  refine ⟨_, rfl, pr, _, rfl, .lst (sq (sa2 _ _ er5)) (dpAll_mono sa2 dr5), shw.sh, shw.nd, shw.de, shw.ln, _, rfl, rfl, _, rfl, iteTx (decide_eq_true rfl) ?_⟩
  refine ⟨_, rfl, pr, N, xs, bs, rfl, sq (sa2 _ _ er5), dpAll_mono sa2 dr5, ok.lens, ok.pre (by omega) N4, fun HG pG hs9 LG sG nG eG fG leG llG => ?_⟩
  obtain rfl := Least.uniq ok.lens le leG
  have saG := sa2.trans sG
  refine ⟨_, rfl, _, _, .lst (sq eG) (dpAll_mono gn_out fG.dpa), .lst (sq (saG _ _ ed)) (dpAll_mono saG dd), shL, shL, _, rfl, iteTx ncL.eqv ?_⟩
  refine ⟨szc 0, fun q4 n4 => ⟨q4, 0, [], [], rfl, sq upd_same, .nil, (fun _ h => nomatch h), .small (fun _ h => nomatch h) (by decide) (by decide) (by decide), fun HI pI ks LI sI nI' eI fI leI llI => ?_⟩⟩
  obtain rfl : LI = [] := List.eq_nil_of_length_eq_zero (by have : LI.length ≤ 0 := llI; omega)
  refine ⟨szc 0, fun q5 n5 => ⟨_, _, .lst ((same_new n5).seq (sq eI)) (dpAll_mono (gn_out.trans (same_new n5)) fI.dpa), .lst (sq upd_same) .nil, rfl, rfl, _, rfl, iteTx rfl ?_⟩⟩
  refine ⟨szc 1, fun q6 n6 => ⟨_, rfl, q6, _, _, rfl, rfl, upd_same, by omega, by omega, sz (by simp only [List.length_cons, List.length_nil]; omega), fun q7 n7 => ⟨szc 2, fun q8 n8 => ⟨szc 0, fun q9 n9 => ?_⟩⟩⟩⟩
  refine ⟨_, q9, (0, List.replicate N 0), [], [], rfl, ⟨q8, q7, rfl, st ((same_new n9) _ _ upd_same), (same_new n9).seq ((same_new n8).seq (sq (by rw [upd_same, ← zeros N]; rfl)))⟩, sq upd_same, .nil, (fun _ h => nomatch h), fun HJ _ => ⟨_, rfl, q _⟩⟩
end
theorem all_mk {l : PySem.W.OpenLaw} {w : World} {K : PySem.W.Frag} {h : Heap} {mg : Str → Option Value} {fa f1 f2 f3 f4 f5 f6 f7 f8 f9 f10 f11 f12 f13 f14 f15 : Addr} (X : K.In h) (G : h.Ns mainGlobals mg) (hfa : mg "law" = some (.ref fa))
    {od1 an1 od2 an2 od3 an3 od4 an4 od5 an5 od6 an6 od7 an7 od8 an8 od9 an9 od10 an10 od11 an11 od12 an12 od13 an13 od14 an14 od15 an15 : Option Addr} {sl1 sl2 sl3 sl4 sl5 sl6 sl7 sl8 sl9 sl10 sl11 sl12 sl13 sl14 sl15 : Array (Option Value)} {oc1 kV1 dc1 pm1 cd1 ct1 oc2 kV2 dc2 pm2 cd2 ct2 oc3 kV3 dc3 pm3 cd3 ct3 oc4 kV4 dc4 pm4 cd4 ct4 oc5 kV5 dc5 pm5 cd5 ct5 oc6 kV6 dc6 pm6 cd6 ct6 oc7 kV7 dc7 pm7 cd7 ct7 oc8 kV8 dc8 pm8 cd8 ct8 oc9 kV9 dc9 pm9 cd9 ct9 oc10 kV10 dc10 pm10 cd10 ct10 oc11 kV11 dc11 pm11 cd11 ct11 oc12 kV12 dc12 pm12 cd12 ct12 oc13 kV13 dc13 pm13 cd13 ct13 oc14 kV14 dc14 pm14 cd14 ct14 oc15 kV15 dc15 pm15 cd15 ct15 : Value}
    (a1 : PySem.W.nsIn K mainGlobals "covers" = some (some (.ref f1))) (l1 : K.lookup f1 = some ⟨oc1, od1, .func (PySem.W.fnOf "covers" "covers" (defArgs s_covers) (defBody s_covers) (defScope s_covers) .none kV1 dc1 pm1 an1 cd1 ct1), sl1⟩) (c1 : PySem.W.codeIn K cd1 "covers" = true) (k1 : PySem.W.keepIn K (.ref f1) = true)
    (a2 : PySem.W.nsIn K mainGlobals "is_above" = some (some (.ref f2))) (l2 : K.lookup f2 = some ⟨oc2, od2, .func (PySem.W.fnOf "is_above" "is_above" (defArgs s_is_above) (defBody s_is_above) (defScope s_is_above) .none kV2 dc2 pm2 an2 cd2 ct2), sl2⟩) (c2 : PySem.W.codeIn K cd2 "is_above" = true) (k2 : PySem.W.keepIn K (.ref f2) = true)
    (a3 : PySem.W.nsIn K mainGlobals "packed" = some (some (.ref f3))) (l3 : K.lookup f3 = some ⟨oc3, od3, .func (PySem.W.fnOf "packed" "packed" (defArgs s_packed) (defBody s_packed) (defScope s_packed) .none kV3 dc3 pm3 an3 cd3 ct3), sl3⟩) (c3 : PySem.W.codeIn K cd3 "packed" = true) (k3 : PySem.W.keepIn K (.ref f3) = true)
    (a4 : PySem.W.nsIn K mainGlobals "meets" = some (some (.ref f4))) (l4 : K.lookup f4 = some ⟨oc4, od4, .func (PySem.W.fnOf "meets" "meets" (defArgs s_meets) (defBody s_meets) (defScope s_meets) .none kV4 dc4 pm4 an4 cd4 ct4), sl4⟩) (c4 : PySem.W.codeIn K cd4 "meets" = true) (k4 : PySem.W.keepIn K (.ref f4) = true)
    (a5 : PySem.W.nsIn K mainGlobals "some_least_ones" = some (some (.ref f5))) (l5 : K.lookup f5 = some ⟨oc5, od5, .func (PySem.W.fnOf "some_least_ones" "some_least_ones" (defArgs s_some_least_ones) (defBody s_some_least_ones) (defScope s_some_least_ones) .none kV5 dc5 pm5 an5 cd5 ct5), sl5⟩) (c5 : PySem.W.codeIn K cd5 "some_least_ones" = true) (k5 : PySem.W.keepIn K (.ref f5) = true)
    (a6 : PySem.W.nsIn K mainGlobals "least_ones" = some (some (.ref f6))) (l6 : K.lookup f6 = some ⟨oc6, od6, .func (PySem.W.fnOf "least_ones" "least_ones" (defArgs s_least_ones) (defBody s_least_ones) (defScope s_least_ones) .none kV6 dc6 pm6 an6 cd6 ct6), sl6⟩) (c6 : PySem.W.codeIn K cd6 "least_ones" = true) (k6 : PySem.W.keepIn K (.ref f6) = true)
    (a7 : PySem.W.nsIn K mainGlobals "_law_cell" = some (some (.ref f7))) (l7 : K.lookup f7 = some ⟨oc7, od7, .func (PySem.W.fnOf "_law_cell" "_law_cell" (defArgs s_law_cell) (defBody s_law_cell) (defScope s_law_cell) .none kV7 dc7 pm7 an7 cd7 ct7), sl7⟩) (c7 : PySem.W.codeIn K cd7 "_law_cell" = true) (k7 : PySem.W.keepIn K (.ref f7) = true)
    (a8 : PySem.W.nsIn K mainGlobals "_law_digits" = some (some (.ref f8))) (l8 : K.lookup f8 = some ⟨oc8, od8, .func (PySem.W.fnOf "_law_digits" "_law_digits" (defArgs s_law_digits) (defBody s_law_digits) (defScope s_law_digits) .none kV8 dc8 pm8 an8 cd8 ct8), sl8⟩) (c8 : PySem.W.codeIn K cd8 "_law_digits" = true) (k8 : PySem.W.keepIn K (.ref f8) = true)
    (a9 : PySem.W.nsIn K mainGlobals "_law_covers" = some (some (.ref f9))) (l9 : K.lookup f9 = some ⟨oc9, od9, .func (PySem.W.fnOf "_law_covers" "_law_covers" (defArgs s_law_covers) (defBody s_law_covers) (defScope s_law_covers) .none kV9 dc9 pm9 an9 cd9 ct9), sl9⟩) (c9 : PySem.W.codeIn K cd9 "_law_covers" = true) (k9 : PySem.W.keepIn K (.ref f9) = true)
    (a10 : PySem.W.nsIn K mainGlobals "_law_above" = some (some (.ref f10))) (l10 : K.lookup f10 = some ⟨oc10, od10, .func (PySem.W.fnOf "_law_above" "_law_above" (defArgs s_law_above) (defBody s_law_above) (defScope s_law_above) .none kV10 dc10 pm10 an10 cd10 ct10), sl10⟩) (c10 : PySem.W.codeIn K cd10 "_law_above" = true) (k10 : PySem.W.keepIn K (.ref f10) = true)
    (a11 : PySem.W.nsIn K mainGlobals "_law_some" = some (some (.ref f11))) (l11 : K.lookup f11 = some ⟨oc11, od11, .func (PySem.W.fnOf "_law_some" "_law_some" (defArgs s_law_some) (defBody s_law_some) (defScope s_law_some) .none kV11 dc11 pm11 an11 cd11 ct11), sl11⟩) (c11 : PySem.W.codeIn K cd11 "_law_some" = true) (k11 : PySem.W.keepIn K (.ref f11) = true)
    (a12 : PySem.W.nsIn K mainGlobals "_law_less" = some (some (.ref f12))) (l12 : K.lookup f12 = some ⟨oc12, od12, .func (PySem.W.fnOf "_law_less" "_law_less" (defArgs s_law_less) (defBody s_law_less) (defScope s_law_less) .none kV12 dc12 pm12 an12 cd12 ct12), sl12⟩) (c12 : PySem.W.codeIn K cd12 "_law_less" = true) (k12 : PySem.W.keepIn K (.ref f12) = true)
    (a13 : PySem.W.nsIn K mainGlobals "_law_least_ones" = some (some (.ref f13))) (l13 : K.lookup f13 = some ⟨oc13, od13, .func (PySem.W.fnOf "_law_least_ones" "_law_least_ones" (defArgs s_law_least_ones) (defBody s_law_least_ones) (defScope s_law_least_ones) .none kV13 dc13 pm13 an13 cd13 ct13), sl13⟩) (c13 : PySem.W.codeIn K cd13 "_law_least_ones" = true) (k13 : PySem.W.keepIn K (.ref f13) = true)
    (a14 : PySem.W.nsIn K mainGlobals "_law_is_rows" = some (some (.ref f14))) (l14 : K.lookup f14 = some ⟨oc14, od14, .func (PySem.W.fnOf "_law_is_rows" "_law_is_rows" (defArgs s_law_is_rows) (defBody s_law_is_rows) (defScope s_law_is_rows) .none kV14 dc14 pm14 an14 cd14 ct14), sl14⟩) (c14 : PySem.W.codeIn K cd14 "_law_is_rows" = true) (k14 : PySem.W.keepIn K (.ref f14) = true)
    (a15 : PySem.W.nsIn K mainGlobals "law" = some (some (.ref f15))) (l15 : K.lookup f15 = some ⟨oc15, od15, .func (PySem.W.fnOf "law" "law" (defArgs s_law) (defBody s_law) (defScope s_law) .none kV15 dc15 pm15 an15 cd15 ct15), sl15⟩) (c15 : PySem.W.codeIn K cd15 "law" = true) (k15 : PySem.W.keepIn K (.ref f15) = true)
    {Q0 m0 m1 m2 : Addr} {odm0 anm0 odm1 anm1 odm2 anm2 : Option Addr} {slm0 slm1 slm2 : Array (Option Value)} {ocm0 kVm0 dcm0 pmm0 cdm0 ctm0 ocm1 kVm1 dcm1 pmm1 cdm1 ctm1 ocm2 kVm2 dcm2 pmm2 cdm2 ctm2 : Value}
    (qg0 : PySem.W.nsIn K mainGlobals "Floor" = some (some (.ref Q0))) (qp0 : PySem.W.plainGet K Q0 Str.empty = true) (qh0 : PySem.W.hasDictIn K Q0 = true) (qo0 : PySem.W.plainOver K Q0 = true) (qs0 : PySem.W.findIn K (.ref Q0) "__setattr__" = some (some (.builtin "object.__setattr__"))) (qm0 : PySem.W.makesIn K Q0 = true) (qk0 : PySem.W.keepIn K (.ref Q0) = true)
    (qa0_trees : PySem.W.findIn K (.ref Q0) "trees" = some none)
    (fim0 : PySem.W.findIn K (.ref Q0) "__init__" = some (some (.ref m0))) (ism0 : PySem.W.isFn K (.ref m0) = true) (lom0 : K.lookup m0 = some ⟨ocm0, odm0, .func (PySem.W.fnOf "__init__" "Floor.__init__" (defArgs s_Floor_init) (defBody s_Floor_init) (defScope s_Floor_init) .none kVm0 dcm0 pmm0 anm0 cdm0 ctm0), slm0⟩) (com0 : PySem.W.codeIn K cdm0 "Floor.__init__" = true) (kem0 : PySem.W.keepIn K (.ref m0) = true)
    (fim1 : PySem.W.findIn K (.ref Q0) "keep" = some (some (.ref m1))) (ism1 : PySem.W.isFn K (.ref m1) = true) (lom1 : K.lookup m1 = some ⟨ocm1, odm1, .func (PySem.W.fnOf "keep" "Floor.keep" (defArgs s_Floor_keep) (defBody s_Floor_keep) (defScope s_Floor_keep) .none kVm1 dcm1 pmm1 anm1 cdm1 ctm1), slm1⟩) (com1 : PySem.W.codeIn K cdm1 "Floor.keep" = true) (kem1 : PySem.W.keepIn K (.ref m1) = true)
    (fim2 : PySem.W.findIn K (.ref Q0) "is_under" = some (some (.ref m2))) (ism2 : PySem.W.isFn K (.ref m2) = true) (lom2 : K.lookup m2 = some ⟨ocm2, odm2, .func (PySem.W.fnOf "is_under" "Floor.is_under" (defArgs s_Floor_is_under) (defBody s_Floor_is_under) (defScope s_Floor_is_under) .none kVm2 dcm2 pmm2 anm2 cdm2 ctm2), slm2⟩) (com2 : PySem.W.codeIn K cdm2 "Floor.is_under" = true) (kem2 : PySem.W.keepIn K (.ref m2) = true)
    (z_len : PySem.W.nsIn K mainGlobals "len" = some none) (z_int : PySem.W.nsIn K mainGlobals "int" = some none) (z_abs : PySem.W.nsIn K mainGlobals "abs" = some none) (z_range : PySem.W.nsIn K mainGlobals "range" = some none) (z_min : PySem.W.nsIn K mainGlobals "min" = some none) (z_str : PySem.W.nsIn K mainGlobals "str" = some none) (z_isinstance : PySem.W.nsIn K mainGlobals "isinstance" = some none) (z_bool : PySem.W.nsIn K mainGlobals "bool" = some none) (z_dict : PySem.W.nsIn K mainGlobals "dict" = some none) (z_sum : PySem.W.nsIn K mainGlobals "sum" = some none) (z_list : PySem.W.nsIn K mainGlobals "list" = some none) (z_tuple : PySem.W.nsIn K mainGlobals "tuple" = some none) (z_repr : PySem.W.nsIn K mainGlobals "repr" = some none) (z_sorted : PySem.W.nsIn K mainGlobals "sorted" = some none) (z_enumerate : PySem.W.nsIn K mainGlobals "enumerate" = some none) (z_zip : PySem.W.nsIn K mainGlobals "zip" = some none) (z_all : PySem.W.nsIn K mainGlobals "all" = some none) (z_max : PySem.W.nsIn K mainGlobals "max" = some none) (z_set : PySem.W.nsIn K mainGlobals "set" = some none) (z_ValueError : PySem.W.nsIn K mainGlobals "ValueError" = some none) :
    ∀ base : Heap, K.In base → base.Ns mainGlobals mg → TopOk l.prog w K mg base fa (spLaw K) := by
  have e := hfa.symm.trans (PySem.W.mg_of X G a15)
  cases e
  have F1 := fun_mk (st := s_covers) l1 c1 k1
  have F2 := fun_mk (st := s_is_above) l2 c2 k2
  have F3 := fun_mk (st := s_packed) l3 c3 k3
  have F4 := fun_mk (st := s_meets) l4 c4 k4
  have F5 := fun_mk (st := s_some_least_ones) l5 c5 k5
  have F6 := fun_mk (st := s_least_ones) l6 c6 k6
  have F7 := fun_mk (st := s_law_cell) l7 c7 k7
  have F8 := fun_mk (st := s_law_digits) l8 c8 k8
  have F9 := fun_mk (st := s_law_covers) l9 c9 k9
  have F10 := fun_mk (st := s_law_above) l10 c10 k10
  have F11 := fun_mk (st := s_law_some) l11 c11 k11
  have F12 := fun_mk (st := s_law_less) l12 c12 k12
  have F13 := fun_mk (st := s_law_least_ones) l13 c13 k13
  have F14 := fun_mk (st := s_law_is_rows) l14 c14 k14
  have F15 := fun_mk (st := s_law) l15 c15 k15
  have B : Bt mg := { len := PySem.W.mg_none_of X G z_len, int := PySem.W.mg_none_of X G z_int, abs := PySem.W.mg_none_of X G z_abs, range := PySem.W.mg_none_of X G z_range, min := PySem.W.mg_none_of X G z_min, str := PySem.W.mg_none_of X G z_str, isinstance := PySem.W.mg_none_of X G z_isinstance, bool := PySem.W.mg_none_of X G z_bool, dict := PySem.W.mg_none_of X G z_dict, sum := PySem.W.mg_none_of X G z_sum, list := PySem.W.mg_none_of X G z_list, tuple := PySem.W.mg_none_of X G z_tuple, repr := PySem.W.mg_none_of X G z_repr, sorted := PySem.W.mg_none_of X G z_sorted, enumerate := PySem.W.mg_none_of X G z_enumerate, zip := PySem.W.mg_none_of X G z_zip, all := PySem.W.mg_none_of X G z_all, max := PySem.W.mg_none_of X G z_max, set := PySem.W.mg_none_of X G z_set, ValueError := PySem.W.mg_none_of X G z_ValueError }
  have T0 : TxtF K mg Q0 := ⟨⟨qp0, qh0, qo0, qs0⟩, qa0_trees, PySem.W.mg_of X G qg0⟩
  have F_m0 := fun_mk (st := s_Floor_init) lom0 com0 kem0
  have F_m1 := fun_mk (st := s_Floor_keep) lom1 com1 kem1
  have F_m2 := fun_mk (st := s_Floor_is_under) lom2 com2 kem2
  intro base _ _
  have D_covers := fd_covers (P := l.prog) (w := w) (base := base) F1 (PySem.W.mg_of X G a1) B
  have D_is_above := fd_is_above (P := l.prog) (w := w) (base := base) F2 (PySem.W.mg_of X G a2) D_covers
  have D_packed := fd_packed (P := l.prog) (w := w) (base := base) F3 (PySem.W.mg_of X G a3) B
  have D_meets := fd_meets (P := l.prog) (w := w) (base := base) F4 (PySem.W.mg_of X G a4) B 8
  have M_keep := md_keep (P := l.prog) (w := w) (mg := mg) (base := base) F_m1 T0 ⟨fim1, ism1, kem1⟩
  have M_is_under := md_is_under (P := l.prog) (w := w) (mg := mg) (base := base) (lv := 8) F_m2 T0 ⟨fim2, ism2, kem2⟩ D_meets
  have I_Floor := mkr_Floor (P := l.prog) (w := w) (mg := mg) (base := base) F_m0 T0 ⟨qm0, fim0, ism0, qk0⟩ M_keep
  have D_some_least_ones := fd_some_least_ones (P := l.prog) (w := w) (base := base) F5 (PySem.W.mg_of X G a5) B T0 (by decide) D_packed I_Floor M_keep M_is_under
  have D_least_ones := fd_least_ones (P := l.prog) (w := w) (base := base) F6 (PySem.W.mg_of X G a6) B D_some_least_ones
  have D_law_cell := fd_law_cell (P := l.prog) (w := w) (base := base) F7 (PySem.W.mg_of X G a7) B
  have D_law_digits := fd_law_digits (P := l.prog) (w := w) (base := base) F8 (PySem.W.mg_of X G a8) B
  have D_law_covers := fd_law_covers (P := l.prog) (w := w) (base := base) F9 (PySem.W.mg_of X G a9) B
  have D_law_above := fd_law_above (P := l.prog) (w := w) (base := base) F10 (PySem.W.mg_of X G a10) D_law_covers
  have D_law_some := fd_law_some (P := l.prog) (w := w) (base := base) F11 (PySem.W.mg_of X G a11) B D_law_digits
  have D_law_less := fd_law_less (P := l.prog) (w := w) (base := base) F12 (PySem.W.mg_of X G a12) B
  have D_law_least_ones := fd_law_least_ones (P := l.prog) (w := w) (base := base) F13 (PySem.W.mg_of X G a13) B D_law_above D_law_covers D_law_less
  have D_law_is_rows := fd_law_is_rows (P := l.prog) (w := w) (base := base) F14 (PySem.W.mg_of X G a14) B
  exact fd_law F15 (PySem.W.mg_of X G a15) (fun s v => .of_eq rfl) B D_law_cell D_law_digits D_law_some D_law_above D_law_least_ones D_law_is_rows D_is_above D_least_ones
end My
open PySem PySem.W PyProof.Rows
set_option maxRecDepth 100000 in
set_option maxHeartbeats 0 in
theorem PySem.Challenge.cw_legion_k41_least_situations_holds : PySem.Challenge.rw_legion_k41_least_situations.Holds := by
  w_on; o_law; k_head; (case hw => w_witness2)
  k_fill
  refine My.walk_top (l := PySem.Challenge.rw_legion_k41_least_situations) (n := 63) (sp := fun w => My.spLaw _) rfl (by decide) rfl (fun w h Y => PySem.W.kIn_of Y) ?F (fun _ _ a ns hl hS => ⟨a, ns, rfl, hS, hl, fun _ => rfl⟩)
  case F =>
    intro w mg fa h KX G hmg
    refine' My.all_mk KX G hmg ?a1 ?l1 ?c1 ?k1 ?a2 ?l2 ?c2 ?k2 ?a3 ?l3 ?c3 ?k3 ?a4 ?l4 ?c4 ?k4 ?a5 ?l5 ?c5 ?k5 ?a6 ?l6 ?c6 ?k6 ?a7 ?l7 ?c7 ?k7 ?a8 ?l8 ?c8 ?k8 ?a9 ?l9 ?c9 ?k9 ?a10 ?l10 ?c10 ?k10 ?a11 ?l11 ?c11 ?k11 ?a12 ?l12 ?c12 ?k12 ?a13 ?l13 ?c13 ?k13 ?a14 ?l14 ?c14 ?k14 ?a15 ?l15 ?c15 ?k15 ?qg0 ?qp0 ?qh0 ?qo0 ?qs0 ?qm0 ?qk0 ?qa0_trees ?fim0 ?ism0 ?lom0 ?com0 ?kem0 ?fim1 ?ism1 ?lom1 ?com1 ?kem1 ?fim2 ?ism2 ?lom2 ?com2 ?kem2 ?z_len ?z_int ?z_abs ?z_range ?z_min ?z_str ?z_isinstance ?z_bool ?z_dict ?z_sum ?z_list ?z_tuple ?z_repr ?z_sorted ?z_enumerate ?z_zip ?z_all ?z_max ?z_set ?z_ValueError
    (case qg0 => k_is)
    (case qp0 => k_is)
    (case qh0 => k_is)
    (case qo0 => k_is)
    (case qs0 => k_is)
    (case qm0 => k_is)
    (case qk0 => k_is)
    (case qa0_trees => k_is)
    (case fim0 => k_is)
    (case ism0 => k_is)
    (case lom0 => k_is)
    (case com0 => k_is)
    (case kem0 => k_is)
    (case fim1 => k_is)
    (case ism1 => k_is)
    (case lom1 => k_is)
    (case com1 => k_is)
    (case kem1 => k_is)
    (case fim2 => k_is)
    (case ism2 => k_is)
    (case lom2 => k_is)
    (case com2 => k_is)
    (case kem2 => k_is)
    (case a1 => k_is); (case l1 => k_is); (case c1 => k_is); (case k1 => k_is)
    (case a2 => k_is); (case l2 => k_is); (case c2 => k_is); (case k2 => k_is)
    (case a3 => k_is); (case l3 => k_is); (case c3 => k_is); (case k3 => k_is)
    (case a4 => k_is); (case l4 => k_is); (case c4 => k_is); (case k4 => k_is)
    (case a5 => k_is); (case l5 => k_is); (case c5 => k_is); (case k5 => k_is)
    (case a6 => k_is); (case l6 => k_is); (case c6 => k_is); (case k6 => k_is)
    (case a7 => k_is); (case l7 => k_is); (case c7 => k_is); (case k7 => k_is)
    (case a8 => k_is); (case l8 => k_is); (case c8 => k_is); (case k8 => k_is)
    (case a9 => k_is); (case l9 => k_is); (case c9 => k_is); (case k9 => k_is)
    (case a10 => k_is); (case l10 => k_is); (case c10 => k_is); (case k10 => k_is)
    (case a11 => k_is); (case l11 => k_is); (case c11 => k_is); (case k11 => k_is)
    (case a12 => k_is); (case l12 => k_is); (case c12 => k_is); (case k12 => k_is)
    (case a13 => k_is); (case l13 => k_is); (case c13 => k_is); (case k13 => k_is)
    (case a14 => k_is); (case l14 => k_is); (case c14 => k_is); (case k14 => k_is)
    (case a15 => k_is); (case l15 => k_is); (case c15 => k_is); (case k15 => k_is)
    (case z_len => k_is); (case z_int => k_is); (case z_abs => k_is); (case z_range => k_is); (case z_min => k_is); (case z_str => k_is); (case z_isinstance => k_is); (case z_bool => k_is); (case z_dict => k_is); (case z_sum => k_is); (case z_list => k_is); (case z_tuple => k_is); (case z_repr => k_is); (case z_sorted => k_is); (case z_enumerate => k_is); (case z_zip => k_is); (case z_all => k_is); (case z_max => k_is); (case z_set => k_is); (case z_ValueError => k_is)
